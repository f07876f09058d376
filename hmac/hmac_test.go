package hmac_test

import (
	stdhmac "crypto/hmac"
	"crypto/sha256"
	"encoding/hex"
	"math/rand"
	"strings"
	"sync"
	"testing"

	"towline/hmac"
	"towline/sha"
)

// digest is SHA-256 as others have it.
func digest(s string) string {
	sum := sha256.Sum256([]byte(s))
	return string(sum[:])
}

// byTheWords is what the chapter's words make of a key and a text.
func byTheWords(key, s string) string {
	if len(key) > 64 {
		key = digest(key)
	}
	for len(key) < 64 {
		key += "\x00"
	}
	var inner, outer []byte
	for i := range 64 {
		inner = append(inner, key[i]^0x36)
		outer = append(outer, key[i]^0x5c)
	}
	return digest(string(outer) + digest(string(inner)+s))
}

// known is what others say the sum is.
func known(key, s string) string {
	h := stdhmac.New(sha256.New, []byte(key))
	h.Write([]byte(s))
	return string(h.Sum(nil))
}

// drawn is as many bytes as are asked for, all kinds of them.
func drawn(chance *rand.Rand, length int) string {
	s := make([]byte, length)
	for i := range s {
		s[i] = byte(chance.Intn(256))
	}
	return string(s)
}

func noughts(many int) string { return strings.Repeat("\x00", many) }

// turned is s with one byte made xor another one.
func turned(s string, place int, by byte) string {
	return s[:place] + string([]byte{s[place] ^ by}) + s[place+1:]
}

// lengths are those at which a block or its pad becomes another one.
func lengths() []int {
	return []int{0, 1, 2, 31, 32, 33, 54, 55, 56, 57, 62, 63, 64, 65, 66, 119, 120, 127, 128, 129, 1000, 20000}
}

// keys are keys of these lengths, of bytes of all kinds, of all that end in
// noughts, and of the two bytes that the block is xored with.
func keys() []string {
	chance := rand.New(rand.NewSource(1))
	all := []string{"Jefe", "äöü€", "\xff\xfe\x80\xc0", "a\x00", "\x00a", "\x00a\x00"}
	for _, length := range lengths() {
		all = append(all, drawn(chance, length))
	}
	for _, length := range []int{1, 20, 32, 63, 64, 65, 131} {
		all = append(all, noughts(length), drawn(chance, length-1)+"\x00", drawn(chance, length/2)+noughts(length-length/2))
		for _, b := range []string{"\x36", "\x5c", "\xff", "\x6a"} {
			all = append(all, strings.Repeat(b, length))
		}
	}
	return all
}

func texts() []string {
	chance := rand.New(rand.NewSource(2))
	all := []string{"what do ya want for nothing?", "äöü€", "\xff\xfe\x80\xc0", "\x00", "a\x00", "\x80"}
	for _, length := range lengths() {
		all = append(all, drawn(chance, length))
	}
	return all
}

// M1: sums that are known (RFC 4231), the chapter's first.
func TestKnownSums(t *testing.T) {
	counted := ""
	for b := range 25 {
		counted += string([]byte{byte(b + 1)})
	}
	for _, c := range []struct{ key, s, want string }{
		{"Jefe", "what do ya want for nothing?", "5bdcc146bf60754e6a042426089575c75a003f089d2739839dec58b964ec3843"},
		{"", "", "b613679a0814d9ec772f95d778c35fc5ff1697c493715653c6c712144292c5ad"},
		{strings.Repeat("\x0b", 20), "Hi There", "b0344c61d8db38535ca8afceaf0bf12b881dc200c9833da726e9376c2e32cff7"},
		{strings.Repeat("\xaa", 20), strings.Repeat("\xdd", 50), "773ea91e36800e46854db8ebd09181a72959098b3ef8c122d9635514ced565fe"},
		{counted, strings.Repeat("\xcd", 50), "82558a389a443c0ea4cc819899f2083a85f0faa3e578f8077a2e3ff46729665b"},
		{strings.Repeat("\xaa", 131), "Test Using Larger Than Block-Size Key - Hash Key First", "60e431591ee0b67f0d8a26aacbf5b77f8e0bc6213728c5140546040f0ee37f54"},
		{strings.Repeat("\xaa", 131), "This is a test using a larger than block-size key and a larger than block-size data. The key needs to be hashed before being used by the HMAC algorithm.", "9b09ffa71b942fcb27635fbcd5b0e944bfdc63644f0713938a7f51535c3a35e2"},
	} {
		if got := hex.EncodeToString([]byte(hmac.Sum(c.key, c.s))); got != c.want {
			t.Errorf("Sum(%.10q, %.20q) = %s, want %s", c.key, c.s, got, c.want)
		}
	}
}

// M1: the chapter's words, and what others say, of all these keys and texts.
func TestSum(t *testing.T) {
	for _, key := range keys() {
		for _, s := range texts() {
			got := hmac.Sum(key, s)
			if got != byTheWords(key, s) || got != known(key, s) || len(got) != 32 {
				t.Errorf("Sum of %d bytes under a key of %d = %x, want %x", len(s), len(key), got, known(key, s))
			}
		}
	}
}

// M1: keys of every length up to some blocks; of each its own sum.
func TestKeysOfEachLength(t *testing.T) {
	whole := strings.Repeat("k", 200)
	seen := map[string]int{}
	for length := range len(whole) + 1 {
		key := whole[:length]
		got := hmac.Sum(key, "text")
		seen[got]++
		if got != known(key, "text") {
			t.Errorf("under a key of %d bytes: %x", length, got)
		}
	}
	if len(seen) != len(whole)+1 {
		t.Errorf("%d sums under %d keys", len(seen), len(whole)+1)
	}
}

// M1: a key of 64 bytes is a block as it stands, one of 65 is not.
func TestKeysAtTheBlock(t *testing.T) {
	whole := drawn(rand.New(rand.NewSource(3)), 65)
	for _, length := range []int{63, 64, 65} {
		key := whole[:length]
		digested := hmac.Sum(digest(key), "text") == hmac.Sum(key, "text")
		if digested != (length == 65) {
			t.Errorf("under a key of %d bytes, and its digest: the same sums: %v", length, digested)
		}
	}
}

// M1: every bit of a key counts, wherever it stands.
func TestEveryBitOfAKeyCounts(t *testing.T) {
	for _, length := range []int{1, 32, 63, 64, 65, 130} {
		key := drawn(rand.New(rand.NewSource(4)), length)
		seen := map[string]int{hmac.Sum(key, "text"): 1}
		for i := range length {
			for bit := range 8 {
				other := turned(key, i, 1<<bit)
				got := hmac.Sum(other, "text")
				seen[got]++
				if got != known(other, "text") {
					t.Fatalf("under a key of %d bytes with bit %d of byte %d turned: %x", length, bit, i, got)
				}
			}
		}
		if len(seen) != 1+8*length {
			t.Errorf("under keys of %d bytes: %d sums", length, len(seen))
		}
	}
}

// M1: texts that are the same but for one byte have sums of their own, ...
func TestEveryByteOfATextCounts(t *testing.T) {
	for _, length := range []int{1, 55, 56, 63, 64, 65, 130} {
		s := drawn(rand.New(rand.NewSource(5)), length)
		seen := map[string]int{hmac.Sum("key", s): 1}
		for i := range length {
			other := turned(s, i, 0x81)
			got := hmac.Sum("key", other)
			seen[got]++
			if got != known("key", other) || hmac.Check("key", other, hmac.Sum("key", s)) {
				t.Fatalf("of %d bytes with byte %d turned: %x", length, i, got)
			}
		}
		if len(seen) != 1+length {
			t.Errorf("of texts of %d bytes: %d sums", length, len(seen))
		}
	}
}

// M1: ... and so have those that are the same but for their length, noughts at
// their end or not: only a key is filled up.
func TestEveryLengthOfATextCounts(t *testing.T) {
	for _, whole := range []string{noughts(200), strings.Repeat("a", 200), strings.Repeat("\x80", 200)} {
		seen := map[string]int{}
		for length := range len(whole) + 1 {
			got := hmac.Sum("key", whole[:length])
			seen[got]++
			if got != known("key", whole[:length]) {
				t.Errorf("of the first %d bytes of %.5q: %x", length, whole, got)
			}
		}
		if len(seen) != len(whole)+1 {
			t.Errorf("of %d texts: %d sums", len(whole)+1, len(seen))
		}
	}
}

// M1: it counts what is key and what is text.
func TestKeyAndTextAreTwoThings(t *testing.T) {
	whole := "a key and a text"
	seen := map[string]int{}
	for cut := range whole {
		seen[hmac.Sum(whole[:cut], whole[cut:])]++
		seen[hmac.Sum(whole[cut:], whole[:cut])]++
	}
	if len(seen) != 2*len(whole) {
		t.Errorf("%d sums", len(seen))
	}
}

// M1: Same, written out: also of bytes that are no runes, and of texts whose
// unlike bytes make up for each other, if one adds or xors them.
func TestSame(t *testing.T) {
	for _, c := range []struct {
		a, b string
		want bool
	}{
		{"", "", true}, {"a", "a", true}, {"\x00", "\x00", true}, {"\xff\xfe", "\xff\xfe", true}, {"äöü€", "äöü€", true},
		{"", "a", false}, {"", "\x00", false}, {"a", "a\x00", false}, {"a", "\x00a", false}, {"a", "aa", false}, {"ab", "abc", false},
		{"a", "b", false}, {"a", "A", false}, {"\x00", "\x01", false}, {"\x00", "\x80", false}, {"\x00", "\xff", false},
		{"ab", "ba", false}, {"ab", "cb", false}, {"ab", "ac", false}, {"aab", "aba", false}, {"abab", "baba", false},
		{"\x00\x00", "\x01\x01", false}, {"\x00\x00", "\xff\x01", false}, {"\x80\x80", "\x00\x00", false}, {"\x01\x02", "\x03\x00", false},
		{"\xff", "\xfe", false}, {"\x80", "\xff", false}, {"\xff", "\ufffd", false}, {"\xc3\xa4", "\xc3\xa5", false},
		{"\xe4", "ä", false}, {"ä", "a", false}, {"äx", "äy", false},
	} {
		if hmac.Same(c.a, c.b) != c.want || hmac.Same(c.b, c.a) != c.want {
			t.Errorf("Same(%q, %q) = %v, the other way %v", c.a, c.b, hmac.Same(c.a, c.b), hmac.Same(c.b, c.a))
		}
	}
}

// M1: any two bytes, alone and among others.
func TestSameOfTwoBytes(t *testing.T) {
	for x := range 256 {
		for y := range 256 {
			a, b := string([]byte{byte(x)}), string([]byte{byte(y)})
			if hmac.Same(a, b) != (x == y) || hmac.Same("\x80"+a+"z", "\x80"+b+"z") != (x == y) {
				t.Errorf("Same of %d and %d", x, y)
			}
		}
	}
}

// M1: one byte that is another one, or one more, at each place there is.
func TestSameButForOneByte(t *testing.T) {
	for _, length := range []int{1, 2, 3, 31, 32, 33, 64, 65, 300, 1000} {
		s := drawn(rand.New(rand.NewSource(6)), length)
		again := string([]byte(s))
		if !hmac.Same(s, again) || !hmac.Same(s, s) {
			t.Errorf("Same of %d bytes, twice", length)
		}
		for i := range length {
			for bit := range 8 {
				if other := turned(s, i, 1<<bit); hmac.Same(s, other) || hmac.Same(other, s) {
					t.Errorf("Same of %d bytes, with bit %d of byte %d turned", length, bit, i)
				}
			}
			if hmac.Same(s, s[:i]) || hmac.Same(s[:i], s) {
				t.Errorf("Same of %d bytes and the first %d", length, i)
			}
			if more := s[:i] + "\x00" + s[i:]; hmac.Same(s, more) || hmac.Same(more, s) {
				t.Errorf("Same of %d bytes, and one more at %d", length, i)
			}
		}
	}
}

// M1: Check takes the sum, and that of no other key or text.
func TestCheck(t *testing.T) {
	for i, key := range keys() {
		for j, s := range texts() {
			sum := hmac.Sum(key, s)
			if !hmac.Check(key, s, sum) || !hmac.Check(key, s, known(key, s)) {
				t.Errorf("key %d, text %d: the sum does not check", i, j)
			}
			if hmac.Check(key+"x", s, sum) || hmac.Check(key, s+"x", sum) || hmac.Check(key, "x"+s, sum) {
				t.Errorf("key %d, text %d: the sum checks of others", i, j)
			}
			if key != s && hmac.Check(s, key, sum) {
				t.Errorf("key %d, text %d: the sum checks the other way", i, j)
			}
		}
	}
}

// M1: sums that are too short or too long are none, whatever of them is right.
func TestCheckOfOtherLengths(t *testing.T) {
	for _, s := range []string{"", "text", drawn(rand.New(rand.NewSource(7)), 100)} {
		sum := hmac.Sum("key", s)
		for length := range len(sum) {
			for _, short := range []string{sum[:length], sum[len(sum)-length:], noughts(length)} {
				if hmac.Check("key", s, short) {
					t.Errorf("Check of %d bytes: %q", length, short)
				}
			}
		}
		for _, more := range []string{"\x00", "x", "\xff", sum, noughts(32), noughts(225)} {
			if hmac.Check("key", s, sum+more) || hmac.Check("key", s, more+sum) {
				t.Errorf("Check of the sum and %q", more)
			}
		}
	}
}

// M1: sums with one byte turned to each other value are none.
func TestCheckOfTurnedSums(t *testing.T) {
	sum := hmac.Sum("key", "text")
	for i := range len(sum) {
		for by := range 256 {
			if hmac.Check("key", "text", turned(sum, i, byte(by))) != (by == 0) {
				t.Errorf("Check of the sum with byte %d xored with %d", i, by)
			}
		}
	}
}

// M1: other digests of 32 bytes are none either, nor is the sum in digits.
func TestCheckOfOtherDigests(t *testing.T) {
	key, s := "key", "text"
	sum := hmac.Sum(key, s)
	backwards := []byte(sum)
	for i, b := range []byte(sum) {
		backwards[31-i] = b
	}
	for _, other := range []string{
		digest(s), digest(key + s), digest(s + key), digest(digest(key + s)), digest(sum), known(key, ""), known("", s), known(s, key),
		known(key, sum), known(sum, s), known(digest(key), s), string(backwards), sum[16:] + sum[:16], sum[1:] + sum[:1],
		noughts(32), strings.Repeat("\xff", 32), hex.EncodeToString([]byte(sum)), strings.ToUpper(hex.EncodeToString([]byte(sum))),
	} {
		if hmac.Check(key, s, other) {
			t.Errorf("Check of %x, where the sum is %x", other, sum)
		}
	}
}

// M2: a key and that key with noughts behind it, up to 64 bytes, but no further.
func TestKeysWithNoughts(t *testing.T) {
	whole := drawn(rand.New(rand.NewSource(8)), 63) + "k"
	for _, length := range []int{0, 1, 4, 31, 32, 33, 62, 63, 64} {
		key := whole[64-length:]
		want := hmac.Sum(key, "text")
		for total := length; total <= 64; total++ {
			filled := key + noughts(total-length)
			if got := hmac.Sum(filled, "text"); got != want || got != known(key, "text") || !hmac.Check(filled, "text", want) {
				t.Errorf("a key of %d bytes, filled up to %d: %x, want %x", length, total, got, want)
			}
		}
		for _, total := range []int{65, 66, 96, 128, 129} {
			filled := key + noughts(total-length)
			if got := hmac.Sum(filled, "text"); got == want || got != known(filled, "text") || hmac.Check(filled, "text", want) {
				t.Errorf("a key of %d bytes, filled up to %d: %x", length, total, got)
			}
		}
	}
}

// M2: a key that noughts stand ahead of, or in, is another one; and it is only
// as keys that they are the same.
func TestOtherNoughtsOfKeys(t *testing.T) {
	want := hmac.Sum("key", "text")
	for _, other := range []string{"\x00key", "k\x00ey", "ke\x00y", "key\x00y", "\x00key\x00", "key\x01"} {
		if hmac.Sum(other, "text") == want || hmac.Sum(other, "text") != known(other, "text") {
			t.Errorf("under %q: the sum under %q", other, "key")
		}
	}
	if hmac.Same("key", "key\x00") || hmac.Same("", noughts(64)) {
		t.Error("a key is the same as that key with noughts behind it")
	}
}

// M2: a key of more than 64 bytes and its digest, also with noughts behind that.
func TestLongKeysAndTheirDigests(t *testing.T) {
	for _, length := range []int{65, 66, 96, 127, 128, 129, 131, 1000, 20000} {
		for _, key := range []string{drawn(rand.New(rand.NewSource(9)), length), noughts(length), drawn(rand.New(rand.NewSource(10)), length-1) + "\x00"} {
			sum := sha.Sum(key)
			want := known(key, "text")
			for _, same := range []string{key, sum, sum + "\x00", sum + noughts(32)} {
				if got := hmac.Sum(same, "text"); got != want || !hmac.Check(same, "text", want) {
					t.Errorf("a key of %d bytes, its digest as %d: %x, want %x", length, len(same), got, want)
				}
			}
			if hmac.Sum(sum+noughts(33), "text") == want || hmac.Sum(key+"\x00", "text") == want || hmac.Sum(sha.Sum(sum), "text") == want {
				t.Errorf("a key of %d bytes: its sum under other ones", length)
			}
		}
	}
}

// P1: long keys and long texts end too.
func TestLongOnes(t *testing.T) {
	long := strings.Repeat("towline", 1<<20)
	for _, c := range [][2]string{{"key", long}, {long, "text"}, {long, long}} {
		sum := hmac.Sum(c[0], c[1])
		if sum != known(c[0], c[1]) || !hmac.Check(c[0], c[1], sum) || hmac.Check(c[0], c[1], long) {
			t.Errorf("of %d bytes under a key of %d: %x", len(c[1]), len(c[0]), sum)
		}
	}
	if !hmac.Same(long, strings.Repeat("towline", 1<<20)) || hmac.Same(long, long[1:]+"t") {
		t.Error("Same of long texts")
	}
}

// P4: what is answered hangs on nothing that is asked before, or at one time.
func TestAskedTogether(t *testing.T) {
	allKeys, allTexts := keys(), texts()[:20]
	var asked sync.WaitGroup
	for from := range 8 {
		asked.Go(func() {
			for i := range allKeys {
				key, s := allKeys[(i+from*7)%len(allKeys)], allTexts[(i+from)%len(allTexts)]
				sum := hmac.Sum(key, s)
				if sum != known(key, s) || !hmac.Check(key, s, sum) || hmac.Check(key, s, turned(sum, i%32, 1)) || !hmac.Same(s, s) {
					t.Errorf("asked together: %d bytes under a key of %d: %x", len(s), len(key), sum)
				}
			}
		})
	}
	asked.Wait()
}
