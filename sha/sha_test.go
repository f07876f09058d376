package sha_test

import (
	"crypto/sha256"
	"encoding/hex"
	"math"
	"math/big"
	"math/rand"
	"strings"
	"sync"
	"testing"

	"towline/sha"
)

const noughts = "\x00\x00\x00\x00\x00\x00\x00\x00"

// primes are the first primes, as many as are asked for.
func primes(many int) []int64 {
	var found []int64
	for n := int64(2); len(found) < many; n++ {
		if big.NewInt(n).ProbablyPrime(10) {
			found = append(found, n)
		}
	}
	return found
}

// power is n, as many times as are asked for, with one another.
func power(n *big.Int, times int) *big.Int {
	return new(big.Int).Exp(n, big.NewInt(int64(times)), nil)
}

// behindPoint are the first 32 bits behind the point of a root of n: the
// greatest number of which the power is no more than n moved by as many bits.
func behindPoint(n int64, root int) uint32 {
	moved := new(big.Int).Lsh(big.NewInt(n), uint(32*root))
	r := new(big.Int)
	for bit := 40; bit >= 0; bit-- {
		if more := new(big.Int).SetBit(r, bit, 1); power(more, root).Cmp(moved) <= 0 {
			r = more
		}
	}
	return uint32(r.Uint64())
}

func roots(many, root int) []uint32 {
	var all []uint32
	for _, p := range primes(many) {
		all = append(all, behindPoint(p, root))
	}
	return all
}

// right is x turned, one bit at a time.
func right(x uint32, times int) uint32 {
	for range times {
		x = x>>1 | x&1<<31
	}
	return x
}

// words are the numbers that the bytes of a block are, and those made of them.
func words(block string) []uint32 {
	var w []uint32
	for i := 0; i < 64; i += 4 {
		n := uint32(0)
		for j := range 4 {
			n = n*256 + uint32(block[i+j])
		}
		w = append(w, n)
	}
	for t := 16; t < 64; t++ {
		x, y := w[t-15], w[t-2]
		g0 := right(x, 7) ^ right(x, 18) ^ x>>3
		g1 := right(y, 17) ^ right(y, 19) ^ y>>10
		w = append(w, g1+w[t-7]+g0+w[t-16])
	}
	return w
}

// digest is what the chapter's words make of a text, from roots that are
// reckoned out.
func digest(s string, h, k []uint32) string {
	whole := s + pad(len(s))
	r := append([]uint32{}, h...)
	for ; whole != ""; whole = whole[64:] {
		w, v := words(whole[:64]), append([]uint32{}, r...)
		for t := range 64 {
			a, e := v[0], v[4]
			t1 := v[7] + (right(e, 6) ^ right(e, 11) ^ right(e, 25)) + (e&v[5] ^ (^e)&v[6]) + k[t] + w[t]
			t2 := (right(a, 2) ^ right(a, 13) ^ right(a, 22)) + (a&v[1] ^ a&v[2] ^ v[1]&v[2])
			v = append([]uint32{t1 + t2}, v[:7]...)
			v[4] += t1
		}
		for i := range r {
			r[i] += v[i]
		}
	}
	var sum []byte
	for _, n := range r {
		sum = append(sum, byte(n>>24), byte(n>>16), byte(n>>8), byte(n))
	}
	return string(sum)
}

// pad is what stands behind a text, byte by byte.
func pad(n int) string {
	p := "\x80"
	for (n+len(p)+8)%64 != 0 {
		p += "\x00"
	}
	for place := 56; place >= 0; place -= 8 {
		p += string([]byte{byte(8 * n >> place)})
	}
	return p
}

// known is what others say the digest of a text is.
func known(s string) string {
	sum := sha256.Sum256([]byte(s))
	return string(sum[:])
}

// drawn is as many bytes as are asked for, all kinds of them.
func drawn(chance *rand.Rand, length int) string {
	s := make([]byte, length)
	for i := range s {
		s[i] = byte(chance.Intn(256))
	}
	return string(s)
}

// texts are texts of each length up to some blocks, of some long ones, and of
// bytes that are no runes.
func texts() []string {
	chance := rand.New(rand.NewSource(1))
	all := []string{"abc", "äöü€", "\xff\xfe\x80\xc0", "\x00", "\x80", "\xff", "a\x00", "a\x80"}
	for length := range 270 {
		all = append(all, drawn(chance, length))
	}
	for _, length := range []int{1000, 1024, 1499, 1500, 1501, 4095, 4096, 20000, 70000} {
		all = append(all, drawn(chance, length))
	}
	for _, length := range []int{55, 56, 63, 64, 65, 119, 120, 128, 1000} {
		all = append(all, strings.Repeat("\x00", length), strings.Repeat("\xff", length), strings.Repeat("\x80", length))
	}
	return all
}

// H1: digests that are known, the chapter's first.
func TestKnownSums(t *testing.T) {
	for _, c := range []struct{ s, want string }{
		{"", "e3b0c44298fc1c149afbf4c8996fb92427ae41e4649b934ca495991b7852b855"},
		{"abc", "ba7816bf8f01cfea414140de5dae2223b00361a396177a9cb410ff61f20015ad"},
		{"abcdbcdecdefdefgefghfghighijhijkijkljklmklmnlmnomnopnopq", "248d6a61d20638b8e5c026930c3e6039a33ce45964ff2167f6ecedd419db06c1"},
		{"abcdefghbcdefghicdefghijdefghijkefghijklfghijklmghijklmnhijklmnoijklmnopjklmnopqklmnopqrlmnopqrsmnopqrstnopqrstu", "cf5b16a778af8380036ce59e7b0492370b249b11e8f07a51afac45037afee9d1"},
		{"\xbd", "68325720aabd7c82f30f554b313d0570c95accbb7dc4b5aae11204c08ffe732b"},
		{strings.Repeat("\x00", 55), "02779466cdec163811d078815c633f21901413081449002f24aa3e80f0b88ef7"},
		{strings.Repeat("\x00", 56), "d4817aa5497628e7c77e6b606107042bbba3130888c5f47a375e6179be789fbb"},
		{strings.Repeat("\x00", 64), "f5a5fd42d16a20302798ef6ed309979b43003d2320d9f0e8ea9831a92759fb4b"},
		{strings.Repeat("a", 1000), "41edece42d63e8d9bf515a9ba6932e1c20cbc9f5a5d134645adb5db1b9737ea3"},
		{strings.Repeat("a", 1000000), "cdc76e5c9914fb9281a1c7e284d73e67f1809a48a497200e046d39ccc7112cd0"},
	} {
		if got := hex.EncodeToString([]byte(sha.Sum(c.s))); got != c.want {
			t.Errorf("Sum(%.20q) = %s, want %s", c.s, got, c.want)
		}
	}
}

// H1: the chapter's words, with H0 to H7 and K0 to K63 from the primes' roots.
func TestSumByTheWords(t *testing.T) {
	h, k := roots(8, 2), roots(64, 3)
	if h[0] != 0x6a09e667 || h[7] != 0x5be0cd19 || k[0] != 0x428a2f98 || k[63] != 0xc67178f2 {
		t.Fatalf("the roots: %#x, %#x", h, k)
	}
	for _, s := range texts() {
		if len(s) > 1500 {
			continue
		}
		if got, want := sha.Sum(s), digest(s, h, k); got != want {
			t.Errorf("Sum of %d bytes = %x, want %x", len(s), got, want)
		}
	}
}

// H1: it is the digest that others know as SHA-256, of 32 bytes.
func TestSum(t *testing.T) {
	for _, s := range texts() {
		if got := sha.Sum(s); got != known(s) || len(got) != 32 || sha.Size != 32 {
			t.Errorf("Sum of %d bytes = %x, want %x", len(s), got, known(s))
		}
	}
}

// H1: every byte counts, wherever in a block it stands, and each bit of it.
func TestEveryBitCounts(t *testing.T) {
	for _, length := range []int{1, 55, 56, 63, 64, 65, 130} {
		s := drawn(rand.New(rand.NewSource(2)), length)
		seen := map[string]int{sha.Sum(s): 1}
		for i := range length {
			for bit := range 8 {
				turned := s[:i] + string([]byte{s[i] ^ 1<<bit}) + s[i+1:]
				seen[sha.Sum(turned)]++
				if got := sha.Sum(turned); got != known(turned) {
					t.Fatalf("Sum of %d bytes with bit %d of byte %d turned = %x", length, bit, i, got)
				}
			}
		}
		if len(seen) != 1+8*length {
			t.Errorf("of %d bytes: %d digests", length, len(seen))
		}
	}
}

// H1: so do bytes at the end that the pad has too.
func TestBytesOfThePadCount(t *testing.T) {
	seen := map[string]string{}
	for length := range 130 {
		for _, s := range []string{strings.Repeat("\x00", length), "\x80" + strings.Repeat("\x00", length), strings.Repeat("\x80", length) + "\x80\x80"} {
			sum := sha.Sum(s)
			if other, ok := seen[sum]; ok && other != s {
				t.Errorf("Sum(%q) is Sum(%q)", s, other)
			}
			seen[sum] = s
		}
	}
	if s := "abc" + sha.Pad(3); sha.Sum(s) == sha.Sum("abc") || sha.Sum(s) != known(s) {
		t.Errorf("Sum(%q) = %x", s, sha.Sum(s))
	}
}

// H1: the pads at the edges, written out.
func TestPadAtEdges(t *testing.T) {
	for _, c := range []struct {
		n    int
		want string
	}{
		{0, "\x80" + strings.Repeat("\x00", 63)},
		{1, "\x80" + strings.Repeat("\x00", 61) + "\x08"},
		{31, "\x80" + strings.Repeat("\x00", 31) + "\xf8"},
		{32, "\x80" + strings.Repeat("\x00", 29) + "\x01\x00"},
		{54, "\x80\x00" + noughts[:6] + "\x01\xb0"},
		{55, "\x80" + noughts[:6] + "\x01\xb8"},
		{56, "\x80" + strings.Repeat("\x00", 63) + noughts[:6] + "\x01\xc0"},
		{57, "\x80" + strings.Repeat("\x00", 62) + noughts[:6] + "\x01\xc8"},
		{63, "\x80" + strings.Repeat("\x00", 56) + noughts[:6] + "\x01\xf8"},
		{64, "\x80" + strings.Repeat("\x00", 55) + noughts[:6] + "\x02\x00"},
		{65, "\x80" + strings.Repeat("\x00", 54) + noughts[:6] + "\x02\x08"},
		{119, "\x80" + noughts[:6] + "\x03\xb8"},
		{120, "\x80" + strings.Repeat("\x00", 63) + noughts[:6] + "\x03\xc0"},
		{128, "\x80" + strings.Repeat("\x00", 55) + noughts[:6] + "\x04\x00"},
	} {
		if got := sha.Pad(c.n); got != c.want {
			t.Errorf("Pad(%d) = %q, want %q", c.n, got, c.want)
		}
	}
}

// H1: the pad's parts, and that there are no more noughts than it takes.
func TestPad(t *testing.T) {
	for n := range 3000 {
		p := sha.Pad(n)
		if p != pad(n) || (n+len(p))%64 != 0 || len(p) < 9 || len(p) > 72 {
			t.Fatalf("Pad(%d) = %q", n, p)
		}
	}
}

// H1 and P2: below 0 there is none.
func TestPadBelowNought(t *testing.T) {
	for _, n := range []int{-1, -2, -8, -9, -55, -56, -63, -64, -65, -1 << 31, -1 << 32, -1 << 60, -1 << 61, -1 << 62, math.MinInt + 1, math.MinInt} {
		if got := sha.Pad(n); got != "" {
			t.Errorf("Pad(%d) = %q", n, got)
		}
	}
}

// H1, P1 and P6: lengths of which each byte is used, up to the greatest number
// there is, where 8 n goes round.
func TestPadOfGreatNumbers(t *testing.T) {
	for _, c := range []struct {
		n      int
		length int
		end    string
	}{
		{1<<13 - 1, 65, "\x00\x00\x00\x00\x00\x00\xff\xf8"},
		{1 << 13, 64, "\x00\x00\x00\x00\x00\x01\x00\x00"},
		{1 << 21, 64, "\x00\x00\x00\x00\x01\x00\x00\x00"},
		{1<<29 - 1, 65, "\x00\x00\x00\x00\xff\xff\xff\xf8"},
		{1 << 29, 64, "\x00\x00\x00\x01\x00\x00\x00\x00"},
		{1<<31 - 1, 65, "\x00\x00\x00\x03\xff\xff\xff\xf8"},
		{1<<37 + 55, 9, "\x00\x00\x01\x00\x00\x00\x01\xb8"},
		{1<<45 + 56, 72, "\x00\x01\x00\x00\x00\x00\x01\xc0"},
		{0x0023456789abcdef, 17, "\x01\x1a\x2b\x3c\x4d\x5e\x6f\x78"},
		{1<<61 - 1, 65, "\xff\xff\xff\xff\xff\xff\xff\xf8"},
		{1 << 61, 64, "\x00\x00\x00\x00\x00\x00\x00\x00"},
		{1<<61 + 1, 63, "\x00\x00\x00\x00\x00\x00\x00\x08"},
		{math.MaxInt - 8, 9, "\xff\xff\xff\xff\xff\xff\xff\xb8"},
		{math.MaxInt - 7, 72, "\xff\xff\xff\xff\xff\xff\xff\xc0"},
		{math.MaxInt, 65, "\xff\xff\xff\xff\xff\xff\xff\xf8"},
	} {
		want := "\x80" + strings.Repeat("\x00", c.length-9) + c.end
		if got := sha.Pad(c.n); got != want {
			t.Errorf("Pad(%d) = %q, want %q", c.n, got, want)
		}
	}
}

// H2: the zero Hash has written nothing, nor has one that nothing was written to.
func TestNothingWritten(t *testing.T) {
	var h sha.Hash
	for range 3 {
		if got := h.Sum(); got != sha.Sum("") || got != known("") {
			t.Errorf("Sum of nothing = %x", got)
		}
		h.Write("")
	}
	if got := new(sha.Hash).Sum(); got != known("") {
		t.Errorf("Sum of nothing = %x", got)
	}
}

// H2: what was written, one text behind the other.
func TestWrite(t *testing.T) {
	var h sha.Hash
	var whole strings.Builder
	for _, s := range texts() {
		h.Write(s)
		whole.WriteString(s)
		if got := h.Sum(); got != known(whole.String()) {
			t.Fatalf("behind %d bytes more: Sum of %d bytes = %x", len(s), whole.Len(), got)
		}
	}
}

// H2: one text that is written at once.
func TestWriteOnce(t *testing.T) {
	for _, s := range texts() {
		var h sha.Hash
		h.Write(s)
		if got := h.Sum(); got != known(s) {
			t.Errorf("Sum of %d bytes = %x", len(s), got)
		}
	}
}

// H2: Sum changes nothing: it tells the same again, and what is written after
// it goes on from what was there.
func TestSumChangesNothing(t *testing.T) {
	s := drawn(rand.New(rand.NewSource(3)), 200)
	for cut := range len(s) + 1 {
		var h sha.Hash
		h.Write(s[:cut])
		for range 3 {
			if got := h.Sum(); got != known(s[:cut]) {
				t.Fatalf("Sum of %d bytes = %x", cut, got)
			}
		}
		h.Write(s[cut:])
		if got := h.Sum(); got != known(s) {
			t.Fatalf("asked at %d, then Sum of %d bytes = %x", cut, len(s), got)
		}
	}
}

// H2: and so it is if it is asked for behind every byte.
func TestSumBehindEveryByte(t *testing.T) {
	s := drawn(rand.New(rand.NewSource(4)), 600)
	var h sha.Hash
	for i := range len(s) {
		h.Write(s[i : i+1])
		if got := h.Sum(); got != known(s[:i+1]) {
			t.Fatalf("Sum of %d bytes = %x", i+1, got)
		}
	}
}

// H3: cut once, at each place there is, in texts of the lengths at which the
// pad or the blocks are other ones.
func TestCutOnce(t *testing.T) {
	for _, length := range []int{0, 1, 2, 54, 55, 56, 57, 62, 63, 64, 65, 66, 119, 120, 127, 128, 129, 192, 257} {
		s := drawn(rand.New(rand.NewSource(5)), length)
		want := sha.Sum(s)
		for cut := range length + 1 {
			var h sha.Hash
			h.Write(s[:cut])
			h.Write(s[cut:])
			if got := h.Sum(); got != want || got != known(s) {
				t.Fatalf("%d bytes cut at %d: %x, want %x", length, cut, got, want)
			}
		}
	}
}

// H3: cut twice, at each two places there are.
func TestCutTwice(t *testing.T) {
	for _, length := range []int{64, 65, 130} {
		s := drawn(rand.New(rand.NewSource(6)), length)
		want := known(s)
		for second := range length + 1 {
			for first := range second + 1 {
				var h sha.Hash
				h.Write(s[:first])
				h.Write(s[first:second])
				h.Write(s[second:])
				if got := h.Sum(); got != want {
					t.Fatalf("%d bytes cut at %d and %d: %x, want %x", length, first, second, got, want)
				}
			}
		}
	}
}

// H3: cut into pieces of one length each.
func TestPieces(t *testing.T) {
	s := drawn(rand.New(rand.NewSource(7)), 5000)
	for _, piece := range []int{1, 2, 3, 7, 8, 31, 32, 33, 55, 56, 63, 64, 65, 127, 128, 129, 1000} {
		var h sha.Hash
		for from := 0; from < len(s); from += piece {
			h.Write(s[from:min(from+piece, len(s))])
			h.Write("")
		}
		if got := h.Sum(); got != known(s) {
			t.Errorf("pieces of %d bytes: %x", piece, got)
		}
	}
}

// H3: cut by chance, with digests asked for now and then.
func TestCutsByChance(t *testing.T) {
	chance := rand.New(rand.NewSource(8))
	for range 300 {
		s := drawn(chance, chance.Intn(1000))
		var h sha.Hash
		for from := 0; from < len(s); {
			to := min(len(s), from+chance.Intn(150))
			h.Write(s[from:to])
			from = to
			if got := h.Sum(); chance.Intn(3) == 0 && got != known(s[:from]) {
				t.Fatalf("the first %d of %d bytes: %x", from, len(s), got)
			}
		}
		if got := h.Sum(); got != known(s) {
			t.Fatalf("%d bytes: %x", len(s), got)
		}
	}
}

// P1: a long text ends too, written at once or not.
func TestLongText(t *testing.T) {
	s := strings.Repeat("towline", 1<<20)
	var h sha.Hash
	h.Write("t")
	h.Write(s[1:])
	if want := known(s); sha.Sum(s) != want || h.Sum() != want {
		t.Errorf("Sum of %d bytes = %x and %x, want %x", len(s), sha.Sum(s), h.Sum(), want)
	}
}

// P4: a Hash hangs on what was written to it, not on what is written to others,
// even if they were one to begin with. (Single bytes find room behind what is
// kept of a text, where a longer text would make it be moved.)
func TestHashesDoNotShare(t *testing.T) {
	s := drawn(rand.New(rand.NewSource(10)), 140)
	for cut := range len(s) + 1 {
		var one sha.Hash
		one.Write(s[:cut])
		other, third := one, one
		one.Write("1")
		other.Write("2")
		if one.Sum() != known(s[:cut]+"1") || other.Sum() != known(s[:cut]+"2") || third.Sum() != known(s[:cut]) {
			t.Fatalf("three that were one behind %d bytes", cut)
		}
		other.Write(s)
		one.Write("one")
		if one.Sum() != known(s[:cut]+"1one") || other.Sum() != known(s[:cut]+"2"+s) || third.Sum() != known(s[:cut]) {
			t.Fatalf("three that were one behind %d bytes, and more", cut)
		}
	}
}

// P4: what is answered hangs on nothing that is asked before, or at one time;
// and one Hash may be asked by many, as that changes nothing of it.
func TestAskedTogether(t *testing.T) {
	all := texts()[:150]
	var shared sha.Hash
	shared.Write(all[len(all)-1])
	var asked sync.WaitGroup
	for from := range 8 {
		asked.Go(func() {
			for i := range all {
				s := all[(i+from*11)%len(all)]
				if got := sha.Sum(s); got != known(s) {
					t.Errorf("Sum of %d bytes = %x", len(s), got)
				}
				if sha.Pad(len(s)) != pad(len(s)) || shared.Sum() != known(all[len(all)-1]) {
					t.Errorf("asked together, with %d bytes", len(s))
				}
			}
		})
	}
	asked.Wait()
}
