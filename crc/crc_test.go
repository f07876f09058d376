package crc_test

import (
	"hash/crc32"
	"math/rand"
	"strings"
	"sync"
	"testing"

	"towline/api"
	"towline/crc"
)

const top = ^uint32(0)

// behind is the register behind the bytes of a text, bit by bit, as the
// chapter's words have it.
func behind(r uint32, s string) uint32 {
	for i := range len(s) {
		r ^= uint32(s[i])
		for range 8 {
			dropped := r & 1
			r >>= 1
			if dropped == 1 {
				r ^= 0x82F63B78
			}
		}
	}
	return r
}

// rising is as many bytes as are asked for, each one more than the one ahead.
func rising(from byte, length int) string {
	s := make([]byte, length)
	for i := range s {
		s[i] = from + byte(i)
	}
	return string(s)
}

// drawn is as many bytes as are asked for, all kinds of them.
func drawn(chance *rand.Rand, length int) string {
	s := make([]byte, length)
	for i := range s {
		s[i] = byte(chance.Intn(256))
	}
	return string(s)
}

// texts are texts of each short length, of some long ones, and of bytes that
// are no runes.
func texts() []string {
	chance := rand.New(rand.NewSource(1))
	all := []string{"\xff\xfe\x80\xc0", "äöü€", "\x00", "\xff", strings.Repeat("\x00", 1000), strings.Repeat("\xff", 1000)}
	for length := range 70 {
		all = append(all, drawn(chance, length))
	}
	for _, length := range []int{255, 256, 257, 1400, 1499, 1500, 1501, 70000} {
		all = append(all, drawn(chance, length))
	}
	return all
}

// sums are sums to go on with.
func sums() []uint32 {
	return []uint32{0, 1, 2, 7, 0xff, 0x100, 1<<31 - 1, 1 << 31, 0x82F63B78, 0xE3069283, top - 1, top}
}

// C1: sums that are known.
func TestKnownSums(t *testing.T) {
	falling := []byte(rising(0, 32))
	for i := range falling {
		falling[i] = byte(31 - i)
	}
	for _, c := range []struct {
		s    string
		want uint32
	}{
		{"", 0},
		{"123456789", 0xE3069283},
		{"a", 0xC1D04330},
		{strings.Repeat("\x00", 32), 0x8A9136AA},
		{strings.Repeat("\xff", 32), 0x62A8AB43},
		{rising(0, 32), 0x46DD794E},
		{string(falling), 0x113FDB5C},
	} {
		if got := crc.Sum(c.s); got != c.want {
			t.Errorf("Sum(%q) = %#x, want %#x", c.s, got, c.want)
		}
	}
}

// C1: what every byte there is does, to registers all over.
func TestEveryByte(t *testing.T) {
	for b := range 256 {
		s := string([]byte{byte(b)})
		for _, sum := range sums() {
			if got, want := crc.Update(sum, s), ^behind(^sum, s); got != want {
				t.Errorf("Update(%#x, %q) = %#x, want %#x", sum, s, got, want)
			}
		}
	}
}

// C1.
func TestUpdate(t *testing.T) {
	for _, s := range texts() {
		for _, sum := range sums() {
			if got, want := crc.Update(sum, s), ^behind(^sum, s); got != want {
				t.Errorf("Update(%#x, %d bytes) = %#x, want %#x", sum, len(s), got, want)
			}
		}
	}
}

// C1: Sum is Update from 0, and the check sum that others know as CRC-32C.
func TestSum(t *testing.T) {
	others := crc32.MakeTable(crc32.Castagnoli)
	for _, s := range texts() {
		got := crc.Sum(s)
		if got != crc.Update(0, s) || got != crc32.Checksum([]byte(s), others) {
			t.Errorf("Sum of %d bytes = %#x", len(s), got)
		}
	}
}

// C1: behind nothing at all a sum is what it was.
func TestNothing(t *testing.T) {
	if got := crc.Sum(""); got != 0 {
		t.Errorf("Sum of nothing = %#x", got)
	}
	for _, sum := range sums() {
		if got := crc.Update(sum, ""); got != sum {
			t.Errorf("Update(%#x, nothing) = %#x", sum, got)
		}
	}
}

// C2 and P2: a packet that is too short has no text beside the error.
func TestShort(t *testing.T) {
	for length := range 12 {
		for _, p := range []string{strings.Repeat("\x00", length), rising(200, length)} {
			if s, err := crc.Seal(p); s != "" || err != api.ErrShort {
				t.Errorf("Seal(%q) = %q, %v", p, s, err)
			}
			if err := crc.Check(p); err != api.ErrShort {
				t.Errorf("Check(%q) = %v", p, err)
			}
		}
	}
}

// packets are texts that are long enough, from the shortest one on.
func packets() []string {
	all := []string{strings.Repeat("\x00", 12), strings.Repeat("\xff", 12), "\x00\x07\x00\x09\x01\x02\x03\x04XXXXrest"}
	for _, s := range texts() {
		if len(s) >= 12 {
			all = append(all, s)
		}
	}
	return all
}

// C2: where the sum is put, of what, and how its bytes lie.
func TestSeal(t *testing.T) {
	for _, p := range packets() {
		s, err := crc.Seal(p)
		if err != api.OK || len(s) != len(p) || s[:8] != p[:8] || s[12:] != p[12:] {
			t.Fatalf("Seal of %d bytes: %d bytes, %v", len(p), len(s), err)
		}
		sum := ^behind(top, p[:8]+"\x00\x00\x00\x00"+p[12:])
		for i := range 4 {
			if want := byte(sum >> (8 * i)); s[8+i] != want {
				t.Errorf("Seal of %d bytes: byte %d is %#x, want %#x", len(p), 8+i, s[8+i], want)
			}
		}
	}
}

// C2: the packet of the chapter's example, written out: the sum of 12 noughts
// is put among them.
func TestSealOfNoughts(t *testing.T) {
	p := strings.Repeat("\x00", 12)
	if got := crc.Sum(p); got != 0x2B60B55D {
		t.Errorf("Sum of 12 noughts = %#x", got)
	}
	s, err := crc.Seal(p)
	if s != "\x00\x00\x00\x00\x00\x00\x00\x00\x5d\xb5\x60\x2b" || err != api.OK {
		t.Errorf("Seal of 12 noughts = %q, %v", s, err)
	}
	if crc.Check(s) != api.OK || crc.Check(p) != api.ErrSum {
		t.Errorf("Check: %v sealed, %v not", crc.Check(s), crc.Check(p))
	}
}

// C2: what stands where the sum is put does not matter to Seal.
func TestSealAgain(t *testing.T) {
	for _, p := range packets() {
		s, _ := crc.Seal(p)
		for _, there := range []string{s[8:12], "\x00\x00\x00\x00", "\xff\xff\xff\xff", "1234"} {
			if again, err := crc.Seal(p[:8] + there + p[12:]); again != s || err != api.OK {
				t.Errorf("Seal of %d bytes with %q in them: another one, %v", len(p), there, err)
			}
		}
	}
}

// C2: Check holds a packet against Seal of it, and knows none but the one sum.
func TestCheck(t *testing.T) {
	for _, p := range packets() {
		s, _ := crc.Seal(p)
		want := api.ErrSum
		if s == p {
			want = api.OK
		}
		if got := crc.Check(p); got != want {
			t.Errorf("Check of %d bytes = %v", len(p), got)
		}
		turned := s[:8] + string([]byte{s[11], s[10], s[9], s[8]}) + s[12:]
		unblanked := crc.Sum(p)
		over := string([]byte{byte(unblanked), byte(unblanked >> 8), byte(unblanked >> 16), byte(unblanked >> 24)})
		for _, there := range []string{turned[8:12], over, "\x00\x00\x00\x00", "\xff\xff\xff\xff"} {
			wrong := p[:8] + there + p[12:]
			if wrong != s && crc.Check(wrong) != api.ErrSum {
				t.Errorf("Check of %d bytes with %q in them = %v", len(p), there, crc.Check(wrong))
			}
		}
	}
}

// C3: a sum may be gone on with at any place of a text.
func TestGoingOn(t *testing.T) {
	for _, s := range texts() {
		if len(s) > 300 {
			continue
		}
		for _, sum := range sums() {
			whole := crc.Update(sum, s)
			for cut := range len(s) + 1 {
				if got := crc.Update(crc.Update(sum, s[:cut]), s[cut:]); got != whole {
					t.Fatalf("Update(%#x, %q) = %#x, but %#x if cut at %d", sum, s, whole, got, cut)
				}
			}
		}
	}
}

// C3: and byte by byte.
func TestGoingOnByBytes(t *testing.T) {
	for _, s := range texts() {
		sum := uint32(0)
		for i := range min(len(s), 2000) {
			sum = crc.Update(sum, s[i:i+1])
		}
		if want := crc.Sum(s[:min(len(s), 2000)]); sum != want {
			t.Errorf("%d bytes, one by one: %#x, want %#x", len(s), sum, want)
		}
	}
}

// C3: a sealed packet checks.
func TestSealedChecks(t *testing.T) {
	for _, p := range packets() {
		s, _ := crc.Seal(p)
		if err := crc.Check(s); err != api.OK {
			t.Errorf("Check of Seal of %d bytes = %v", len(p), err)
		}
	}
}

// C3: with one byte turned into any other one, it does not.
func TestOneByteTurned(t *testing.T) {
	for _, p := range []string{strings.Repeat("\x00", 12), rising(250, 13), rising(0, 40), strings.Repeat("\xff", 60)} {
		s, _ := crc.Seal(p)
		for i := range len(s) {
			for by := 1; by < 256; by++ {
				wrong := s[:i] + string([]byte{s[i] ^ byte(by)}) + s[i+1:]
				if err := crc.Check(wrong); err != api.ErrSum {
					t.Fatalf("Check of %d bytes with byte %d xor %#x = %v", len(p), i, by, err)
				}
			}
		}
	}
}

// C3: wherever it stands in a packet of the greatest length.
func TestOneByteTurnedOfMany(t *testing.T) {
	s, _ := crc.Seal(drawn(rand.New(rand.NewSource(3)), api.MaxPacket))
	for i := range len(s) {
		for bit := range 8 {
			wrong := s[:i] + string([]byte{s[i] ^ 1<<bit}) + s[i+1:]
			if err := crc.Check(wrong); err != api.ErrSum {
				t.Fatalf("Check with bit %d of byte %d turned = %v", bit, i, err)
			}
		}
	}
}

// C3: bytes that are lost, or that are there too much.
func TestOtherLength(t *testing.T) {
	s, _ := crc.Seal("\x00\x07\x00\x09\x01\x02\x03\x04....what is carried")
	for length := range len(s) {
		want := api.ErrSum
		if length < 12 {
			want = api.ErrShort
		}
		if err := crc.Check(s[:length]); err != want {
			t.Errorf("Check of the first %d bytes = %v", length, err)
		}
	}
	for _, more := range []string{"\x00", "\x00\x00\x00\x00", "x"} {
		if err := crc.Check(s + more); err != api.ErrSum {
			t.Errorf("Check with %q behind = %v", more, err)
		}
	}
}

func xored(a, b, c string) string {
	s := make([]byte, len(a))
	for i := range s {
		s[i] = a[i] ^ b[i] ^ c[i]
	}
	return string(s)
}

// C3: the Sum of three texts of one length, xored.
func TestThreeTexts(t *testing.T) {
	chance := rand.New(rand.NewSource(4))
	for length := range 300 {
		a, b, c := drawn(chance, length), drawn(chance, length), drawn(chance, length)
		if crc.Sum(xored(a, b, c)) != crc.Sum(a)^crc.Sum(b)^crc.Sum(c) {
			t.Errorf("%q, %q and %q", a, b, c)
		}
	}
}

// P1: a long text ends too.
func TestLongText(t *testing.T) {
	s := strings.Repeat("towline", 1<<20)
	if got, want := crc.Sum(s), crc32.Checksum([]byte(s), crc32.MakeTable(crc32.Castagnoli)); got != want {
		t.Errorf("Sum of %d bytes = %#x, want %#x", len(s), got, want)
	}
	sealed, err := crc.Seal(s)
	if err != api.OK || crc.Check(sealed) != api.OK || crc.Check(s) != api.ErrSum {
		t.Errorf("Seal of %d bytes: %v", len(s), err)
	}
}

// P4: what is answered hangs on nothing that is asked before, or at one time.
func TestAskedTogether(t *testing.T) {
	all := texts()
	var asked sync.WaitGroup
	for from := range 8 {
		asked.Go(func() {
			for i := range all {
				s := all[(i+from*11)%len(all)]
				if got, want := crc.Sum(s), ^behind(top, s); got != want {
					t.Errorf("Sum of %d bytes = %#x, want %#x", len(s), got, want)
				}
			}
		})
	}
	asked.Wait()
}
