package cookie_test

import (
	stdhmac "crypto/hmac"
	"crypto/sha256"
	"encoding/binary"
	"encoding/hex"
	"fmt"
	"math"
	"math/rand"
	"slices"
	"strings"
	"sync"
	"testing"
	"unsafe"

	"towline/api"
	"towline/cookie"
	"towline/hmac"
)

// plain is a right state of which each byte of each number is another one.
func plain() cookie.State {
	return cookie.State{
		OurTag: 0x01020304, PeerTag: 0x11121314, OurTsn: 0x21222324, PeerTsn: 0x31323334,
		TieOurs: 0x41424344, TiePeer: 0x51525354, Window: 0x61626364,
		Outs: 0x7172, Ins: 0x8182, OurPort: 0x9192, PeerPort: 0xa1a2,
		Peer: "\x0a\x00\x00\x01", Made: 0xb1b2b3b4b5, Life: 0xc1c2c3c4c5,
	}
}

// small is a right state that has no more than it must have.
func small() cookie.State {
	return cookie.State{OurTag: 1, PeerTag: 1, Outs: 1, Ins: 1, OurPort: 1, PeerPort: 1, Peer: "\x00\x00\x00\x00"}
}

// large is a right state that has as much as it may have.
func large() cookie.State {
	return cookie.State{
		OurTag: math.MaxUint32, PeerTag: math.MaxUint32, OurTsn: math.MaxUint32, PeerTsn: math.MaxUint32,
		TieOurs: math.MaxUint32, TiePeer: math.MaxUint32, Window: math.MaxUint32,
		Outs: math.MaxUint16, Ins: math.MaxUint16, OurPort: math.MaxUint16, PeerPort: math.MaxUint16,
		Peer: strings.Repeat("\xff", 16), Made: 1 << 40, Life: 1 << 40,
	}
}

// lived is a right state that was made at a time, and lives so long.
func lived(made, life int) cookie.State {
	s := plain()
	s.Made, s.Life = made, life
	return s
}

// field is a number of a state: where it stands in its bytes, in how many, what
// the least and the most are that it may be.
type field struct {
	name        string
	place, size int
	least, most uint64
	set         func(s *cookie.State, n uint64)
}

func fields() []field {
	return []field{
		{"OurTag", 0, 4, 1, math.MaxUint32, func(s *cookie.State, n uint64) { s.OurTag = uint32(n) }},
		{"PeerTag", 4, 4, 1, math.MaxUint32, func(s *cookie.State, n uint64) { s.PeerTag = uint32(n) }},
		{"OurTsn", 8, 4, 0, math.MaxUint32, func(s *cookie.State, n uint64) { s.OurTsn = uint32(n) }},
		{"PeerTsn", 12, 4, 0, math.MaxUint32, func(s *cookie.State, n uint64) { s.PeerTsn = uint32(n) }},
		{"TieOurs", 16, 4, 0, math.MaxUint32, func(s *cookie.State, n uint64) { s.TieOurs = uint32(n) }},
		{"TiePeer", 20, 4, 0, math.MaxUint32, func(s *cookie.State, n uint64) { s.TiePeer = uint32(n) }},
		{"Window", 24, 4, 0, math.MaxUint32, func(s *cookie.State, n uint64) { s.Window = uint32(n) }},
		{"Outs", 28, 2, 1, math.MaxUint16, func(s *cookie.State, n uint64) { s.Outs = uint16(n) }},
		{"Ins", 30, 2, 1, math.MaxUint16, func(s *cookie.State, n uint64) { s.Ins = uint16(n) }},
		{"OurPort", 32, 2, 1, math.MaxUint16, func(s *cookie.State, n uint64) { s.OurPort = uint16(n) }},
		{"PeerPort", 34, 2, 1, math.MaxUint16, func(s *cookie.State, n uint64) { s.PeerPort = uint16(n) }},
		{"Made", 36, 8, 0, 1 << 40, func(s *cookie.State, n uint64) { s.Made = int(n) }},
		{"Life", 44, 8, 0, 1 << 40, func(s *cookie.State, n uint64) { s.Life = int(n) }},
	}
}

// numbers are some for a field: both sides of its bounds, and each bit of it.
func (f field) numbers() []uint64 {
	l := []uint64{0, 1, 2, 255, 256, 257, 1<<40 - 1, 1 << 40, 1<<40 + 1, 1<<40 + 256, 1 << 62, 1 << 63, 1<<63 + 1, math.MaxUint64, math.MaxUint64 - 1, 1<<63 - 1}
	for bit := range 8 * f.size {
		l = append(l, 1<<bit)
	}
	for i, n := range l {
		l[i] = n & (math.MaxUint64 >> (64 - 8*f.size))
	}
	return append(l, f.least, f.most)
}

func (f field) takes(n uint64) bool { return f.least <= n && n <= f.most }

// rightByTheWords goes through the chapter's words, one by one.
func rightByTheWords(s cookie.State) bool {
	switch len(s.Peer) {
	case 4, 16:
	default:
		return false
	}
	for _, n := range []int{s.Made, s.Life} {
		if n < 0 || n > 1099511627776 {
			return false
		}
	}
	return !slices.Contains([]uint32{s.OurTag, s.PeerTag, uint32(s.Outs), uint32(s.Ins), uint32(s.OurPort), uint32(s.PeerPort)}, 0)
}

// textByTheWords is a state's bytes.
func textByTheWords(s cookie.State) string {
	var b []byte
	for _, n := range []uint32{s.OurTag, s.PeerTag, s.OurTsn, s.PeerTsn, s.TieOurs, s.TiePeer, s.Window} {
		b = binary.BigEndian.AppendUint32(b, n)
	}
	for _, n := range []uint16{s.Outs, s.Ins, s.OurPort, s.PeerPort} {
		b = binary.BigEndian.AppendUint16(b, n)
	}
	b = binary.BigEndian.AppendUint64(b, uint64(s.Made))
	b = binary.BigEndian.AppendUint64(b, uint64(s.Life))
	return string(append(append(b, byte(len(s.Peer))), s.Peer...))
}

// signed is a text with its sum under a key ahead of it, as others reckon it.
func signed(key, text string) string {
	h := stdhmac.New(sha256.New, []byte(key))
	h.Write([]byte(text))
	return string(h.Sum(nil)) + text
}

// cookieOf is the cookie that the words make of a right state.
func cookieOf(key string, s cookie.State) string { return signed(key, textByTheWords(s)) }

// readByTheWords looks at each place of a cookie by itself, and at last whether
// the words make the same of what was found.
func readByTheWords(key, c string) (cookie.State, api.Errno) {
	if len(c) < 32 {
		return cookie.State{}, api.ErrShort
	}
	if signed(key, c[32:]) != c {
		return cookie.State{}, api.ErrSum
	}
	text := c[32:]
	if len(text) != 57 && len(text) != 69 {
		return cookie.State{}, api.ErrForm
	}
	var s cookie.State
	for _, f := range fields() {
		wide := append(make([]byte, 8-f.size), text[f.place:f.place+f.size]...)
		f.set(&s, binary.BigEndian.Uint64(wide))
	}
	s.Peer = text[53:]
	if !rightByTheWords(s) || textByTheWords(s) != text {
		return cookie.State{}, api.ErrForm
	}
	return s, api.OK
}

// drawn is as many bytes as are asked for, all kinds of them.
func drawn(chance *rand.Rand, length int) string {
	s := make([]byte, length)
	chance.Read(s)
	return string(s)
}

// drawnState is a right state, most of the time.
func drawnState(chance *rand.Rand) cookie.State {
	var s cookie.State
	for _, f := range fields() {
		n := chance.Uint64() >> chance.Intn(64)
		if chance.Intn(60) > 0 {
			n = f.least + n%(f.most-f.least+1)
		}
		f.set(&s, n)
	}
	s.Peer = drawn(chance, 4+12*chance.Intn(2))
	if chance.Intn(20) == 0 {
		s.Peer = drawn(chance, chance.Intn(20))
	}
	return s
}

// put is s with these bytes at a place.
func put(s string, place int, bytes ...byte) string {
	return s[:place] + string(bytes) + s[place+len(bytes):]
}

// keys are some of all lengths that matter to a digest.
func keys() []string {
	return []string{"", "k", "key", "\x00", strings.Repeat("k", 63), strings.Repeat("k", 64), strings.Repeat("k", 65), strings.Repeat("\xff", 200), drawn(rand.New(rand.NewSource(1)), 1000)}
}

// wantBuild holds what is built of a state against the words.
func wantBuild(t *testing.T, what, key string, s cookie.State) string {
	t.Helper()
	want, wantErr := "", api.ErrArg
	if rightByTheWords(s) {
		want, wantErr = cookieOf(key, s), api.OK
	}
	if got, err := cookie.Build(key, s); got != want || err != wantErr {
		t.Errorf("%s: Build told %x, %d, want %x, %d", what, got, err, want, wantErr)
	}
	if got := cookie.Right(s); got != (wantErr == api.OK) {
		t.Errorf("%s: Right told %v", what, got)
	}
	return want
}

// wantRead holds what is read of a cookie against the words, and those against
// an error.
func wantRead(t *testing.T, what, key, c string, wantErr api.Errno) {
	t.Helper()
	want, err := readByTheWords(key, c)
	if err != wantErr {
		t.Fatalf("%s: the words tell %d, want %d", what, err, wantErr)
	}
	if got, err := cookie.Read(key, c); got != want || err != wantErr {
		t.Errorf("%s: Read told %#v, %d, want %#v, %d", what, got, err, want, wantErr)
	}
}

// wantKept is wantRead of what Keys tell.
func wantKept(t *testing.T, what string, k *cookie.Keys, c string, now int, want cookie.State, wantErr api.Errno) {
	t.Helper()
	if got, err := k.Read(c, now); got != want || err != wantErr {
		t.Errorf("%s: Keys at %d: Read told %#v, %d, want %#v, %d", what, now, got, err, want, wantErr)
	}
}

// wantNot is wantKept of an error: P2: beside it there is nothing.
func wantNot(t *testing.T, what string, k *cookie.Keys, c string, now int, wantErr api.Errno) {
	t.Helper()
	wantKept(t, what, k, c, now, cookie.State{}, wantErr)
}

// The chapter's examples, and how long the other cookies are.
func TestExamples(t *testing.T) {
	for _, s := range []cookie.State{plain(), small(), large()} {
		if c, err := cookie.Build("key", s); len(c) != 85+len(s.Peer) || err != api.OK {
			t.Errorf("Build of %#v: %d bytes, %d", s, len(c), err)
		}
	}
	if c, _ := cookie.Build("key", plain()); len(c) != 89 {
		t.Errorf("%d bytes", len(c))
	}
	if s, err := cookie.Read("key", "x"); s != (cookie.State{}) || err != api.ErrShort {
		t.Error(s, err)
	}
	if s, err := new(cookie.Keys).Read("x", 0); s != (cookie.State{}) || err != api.ErrNone {
		t.Error(s, err)
	}
}

// O1: cookies that are known, each digit of them.
func TestKnownCookies(t *testing.T) {
	bare := cookie.State{OurTag: 1, PeerTag: 1, Outs: 1, Ins: 1, OurPort: 1, PeerPort: 1, Peer: "\x20\x21\x22\x23\x24\x25\x26\x27\x28\x29\x2a\x2b\x2c\x2d\x2e\x2f"}
	for _, x := range []struct {
		key  string
		s    cookie.State
		want string
	}{
		{"a key", plain(), "36f7d73ac3e7b9aacb4aaf360757126a5df6f4df1405db55379b6d7e54d0aaf901020304111213142122232431323334414243445152535461626364717281829192a1a2000000b1b2b3b4b5000000c1c2c3c4c5040a000001"},
		{strings.Repeat("k", 65), bare, "60a73b879dd1219268912cb3594ec1dc0bcf79d6dc66a1a5716c0515731ffef60000000100000001000000000000000000000000000000000000000000010001000100010000000000000000000000000000000010202122232425262728292a2b2c2d2e2f"},
		{"", large(), "d40d6b64722cf70824e1124d39dd2976ed261318c6051cfe009007272d2e7f93ffffffffffffffffffffffffffffffffffffffffffffffffffffffffffffffffffffffff0000010000000000000001000000000010ffffffffffffffffffffffffffffffff"},
	} {
		c, err := cookie.Build(x.key, x.s)
		if hex.EncodeToString([]byte(c)) != x.want || err != api.OK {
			t.Errorf("Build of %#v: %x, %d", x.s, c, err)
		}
		if s, err := cookie.Read(x.key, c); s != x.s || err != api.OK {
			t.Errorf("Read of %s: %#v, %d", x.want, s, err)
		}
	}
}

// O1: each number of a state at, within and past its bounds.
func TestEachNumber(t *testing.T) {
	for _, f := range fields() {
		for _, s := range []cookie.State{plain(), small(), large()} {
			for _, n := range f.numbers() {
				f.set(&s, n)
				what := fmt.Sprintf("%s %d", f.name, n)
				if right := cookie.Right(s); right != f.takes(n) {
					t.Errorf("%s: Right told %v", what, right)
				}
				if c := wantBuild(t, what, "key", s); c != "" {
					wantRead(t, what, "key", c, api.OK)
				}
			}
		}
	}
}

// O1: a Peer has 4 or 16 bytes, whichever; also where its length would fit
// them, were it of one byte.
func TestEachPeer(t *testing.T) {
	s, long := plain(), strings.Repeat("p", 1<<24+600)
	for _, more := range []int{0, 1 << 16, 1 << 24} {
		for length := range 600 {
			s.Peer = long[:more+length]
			right := more+length == 4 || more+length == 16
			if got := cookie.Right(s); got != right {
				t.Errorf("a Peer of %d bytes: Right told %v", len(s.Peer), got)
			}
			if c, err := cookie.Build("key", s); (err == api.OK) != right || !right && (c != "" || err != api.ErrArg) {
				t.Errorf("a Peer of %d bytes: Build told %d bytes, %d", len(s.Peer), len(c), err)
			}
		}
	}
	for _, peer := range []string{"\x00\x00\x00\x00", "\xff\xfe\xfd\xfc", "\xe2\x82\xac\x00", "ä\x80\xff", strings.Repeat("\x00", 16), strings.Repeat("\xc3\xa4", 8), drawn(rand.New(rand.NewSource(2)), 16)} {
		s.Peer = peer
		wantRead(t, fmt.Sprintf("Peer %q", peer), "key", wantBuild(t, fmt.Sprintf("Peer %q", peer), "key", s), api.OK)
	}
}

// O1: states with which more than one thing is wrong, or all.
func TestWrongStates(t *testing.T) {
	wantBuild(t, "the zero State", "key", cookie.State{})
	wantBuild(t, "a Peer alone", "key", cookie.State{Peer: "peer"})
	for _, f := range fields() {
		for _, g := range fields() {
			s := plain()
			f.set(&s, f.least-1)
			g.set(&s, g.most+1)
			wantBuild(t, f.name+" and "+g.name+" out of bounds", "key", s)
		}
		s := small()
		f.set(&s, f.least)
		s.Peer = "pee"
		wantBuild(t, f.name+" and a Peer of 3 bytes", "key", s)
	}
	for _, made := range []int{-1, math.MinInt, math.MinInt + 1, math.MaxInt, 1<<40 + 1} {
		for _, life := range []int{0, -1, math.MinInt, math.MaxInt, 1 << 40} {
			wantBuild(t, fmt.Sprintf("Made %d, Life %d", made, life), "key", lived(made, life))
			wantBuild(t, fmt.Sprintf("Made %d, Life %d", life, made), "key", lived(life, made))
		}
	}
}

// O1: under each key; what one key signed no other one reads, but where the two
// have the same sums.
func TestEachKey(t *testing.T) {
	for _, s := range []cookie.State{plain(), small(), large()} {
		for i, key := range keys() {
			c := wantBuild(t, fmt.Sprintf("key %d", i), key, s)
			for j, other := range keys() {
				if got, err := cookie.Read(other, c); (err == api.OK) != (hmac.Sum(key, "") == hmac.Sum(other, "")) {
					t.Errorf("key %d, read under key %d: %#v, %d", i, j, got, err)
				}
				_, err := readByTheWords(other, c)
				wantRead(t, fmt.Sprintf("key %d, read under key %d", i, j), other, c, err)
			}
		}
	}
}

// O1: what has fewer than 32 bytes is short, whatever else is wrong; what has 32
// and no sum is not.
func TestReadOfShortOnes(t *testing.T) {
	for _, c := range []string{cookieOf("key", plain()), signed("key", ""), strings.Repeat("\x00", 40), strings.Repeat("\xff", 40)[:32]} {
		for length := range 32 {
			wantRead(t, fmt.Sprintf("%d bytes", length), "key", c[:length], api.ErrShort)
			wantRead(t, fmt.Sprintf("the last %d bytes", length), "key", c[len(c)-length:], api.ErrShort)
		}
	}
	wantRead(t, "32 bytes", "key", cookieOf("key", plain())[:32], api.ErrSum)
	wantRead(t, "32 noughts", "key", strings.Repeat("\x00", 32), api.ErrSum)
	wantRead(t, "the sum of nothing", "key", signed("key", ""), api.ErrForm)
	wantRead(t, "the sum of nothing under nothing", "", signed("", ""), api.ErrForm)
}

// O1: a cookie cut at each byte, or with bytes more: as it is, the sum is
// another one; signed again, it is no state's.
func TestReadOfCutOnes(t *testing.T) {
	for _, s := range []cookie.State{plain(), small(), large()} {
		text := textByTheWords(s)
		for length := range len(text) {
			wantRead(t, fmt.Sprintf("cut at %d", length), "key", cookieOf("key", s)[:32+length], api.ErrSum)
			wantRead(t, fmt.Sprintf("cut at %d, signed", length), "key", signed("key", text[:length]), api.ErrForm)
			wantRead(t, fmt.Sprintf("from %d on, signed", length+1), "key", signed("key", text[length+1:]), api.ErrForm)
		}
		for _, more := range []string{"\x00", "x", "\xff", "four", strings.Repeat("\x00", 12), strings.Repeat("x", 256), strings.Repeat("x", 12), text, strings.Repeat("x", 65536)} {
			wantRead(t, "with more", "key", cookieOf("key", s)+more, api.ErrSum)
			wantRead(t, "with more, signed", "key", signed("key", text+more), api.ErrForm)
			wantRead(t, "with more ahead, signed", "key", signed("key", more+text), api.ErrForm)
			wantRead(t, "with more ahead", "key", more+cookieOf("key", s), api.ErrSum)
		}
	}
}

// O1: each byte made each other one: the sum is another one; signed again, what
// is read is as the words say: another state, or none.
func TestReadOfTurnedOnes(t *testing.T) {
	for _, s := range []cookie.State{plain(), small(), large()} {
		c, told := cookieOf("key", s), map[api.Errno]int{}
		for place := range len(c) {
			for b := range 256 {
				turned := put(c, place, byte(b))
				if turned == c {
					continue
				}
				what := fmt.Sprintf("byte %d made %d", place, b)
				if place < 32 || b%16 == 0 || c[place]^byte(b) == 1 {
					wantRead(t, what, "key", turned, api.ErrSum)
				}
				if place >= 32 {
					again := signed("key", turned[32:])
					_, err := readByTheWords("key", again)
					told[err]++
					wantRead(t, what+", signed", "key", again, err)
				}
			}
		}
		if told[api.OK] < 7000 || told[api.ErrForm] < 1000 {
			t.Errorf("told: %v", told)
		}
	}
}

// O1: each number as its bytes, also those that no state may have: Made and Life
// of all their 64 bits.
func TestReadOfEachNumber(t *testing.T) {
	for _, s := range []cookie.State{plain(), small(), large()} {
		for _, f := range fields() {
			for _, n := range f.numbers() {
				bytes := binary.BigEndian.AppendUint64(nil, n)[8-f.size:]
				want := api.ErrForm
				if f.takes(n) {
					want = api.OK
				}
				wantRead(t, fmt.Sprintf("%s %d", f.name, n), "key", signed("key", put(textByTheWords(s), f.place, bytes...)), want)
			}
		}
	}
}

// O1: each length of a Peer that may be said, with each that is there.
func TestReadOfEachPeer(t *testing.T) {
	head := textByTheWords(plain())[:52]
	for said := range 256 {
		for there := range 280 {
			want := api.ErrForm
			if said == there && (there == 4 || there == 16) {
				want = api.OK
			}
			if said != there && there > 20 && (said+there)%7 > 0 && there%256 != said {
				continue
			}
			wantRead(t, fmt.Sprintf("a Peer of %d bytes, said to be %d", there, said), "key", signed("key", head+string([]byte{byte(said)})+strings.Repeat("p", there)), want)
		}
	}
}

// O1: of several errors the first is told.
func TestReadOfSeveralErrors(t *testing.T) {
	wrong := put(textByTheWords(plain()), 0, 0, 0, 0, 0)
	wantRead(t, "a wrong state", "key", signed("key", wrong), api.ErrForm)
	wantRead(t, "a wrong state under another key", "key", signed("other", wrong), api.ErrSum)
	wantRead(t, "a wrong state, cut", "key", signed("other", wrong)[:31], api.ErrShort)
	wantRead(t, "a state whose sum stands behind it", "key", textByTheWords(plain())+signed("key", textByTheWords(plain()))[:32], api.ErrSum)
	wantRead(t, "a state's bytes alone", "key", textByTheWords(large()), api.ErrSum)
	wantRead(t, "a cookie in a cookie", "key", signed("key", cookieOf("key", plain())), api.ErrForm)
}

// O1, TH4: any states and any bytes, against the words.
func TestAnything(t *testing.T) {
	chance, told := rand.New(rand.NewSource(3)), map[api.Errno]int{}
	for range 20000 {
		s, key := drawnState(chance), keys()[chance.Intn(4)]
		c := wantBuild(t, fmt.Sprintf("%#v", s), key, s)
		if c == "" {
			told[api.ErrArg]++
			c = cookieOf(key, s)
		}
		for range chance.Intn(3) {
			c = put(c, chance.Intn(len(c)), byte(chance.Intn(256)))
		}
		if chance.Intn(3) == 0 {
			c = (c + "more")[:max(0, len(c)-chance.Intn(40)+4)]
		}
		if len(c) >= 32 && chance.Intn(3) > 0 {
			c = signed(key, c[32:])
		}
		_, err := readByTheWords(key, c)
		told[err]++
		wantRead(t, fmt.Sprintf("%x", c), key, c, err)
	}
	for _, err := range []api.Errno{api.OK, api.ErrArg, api.ErrSum, api.ErrForm} {
		if told[err] < 1000 {
			t.Errorf("error %d was told %d times", err, told[err])
		}
	}
	for length := range 300 {
		s := drawn(chance, length)
		_, err := readByTheWords("key", s)
		wantRead(t, fmt.Sprintf("%x", s), "key", s, err)
		_, err = readByTheWords("key", signed("key", s))
		wantRead(t, fmt.Sprintf("%x, signed", s), "key", signed("key", s), err)
	}
}

// O2: the zero Keys have none, whatever they are asked.
func TestNoKeys(t *testing.T) {
	var k cookie.Keys
	for _, s := range []cookie.State{plain(), small(), {}, lived(-1, 0)} {
		if c, err := k.Build(s); c != "" || err != api.ErrNone {
			t.Errorf("Build of %#v: %x, %d", s, c, err)
		}
	}
	for _, c := range []string{"", "x", cookieOf("", plain()), cookieOf("key", plain()), signed("", ""), signed("", "no state")} {
		for _, now := range []int{0, -1, plain().Made, math.MaxInt, math.MinInt} {
			wantNot(t, fmt.Sprintf("%x", c), &k, c, now, api.ErrNone)
		}
	}
	k.Turn("key", 0)
	if c, err := k.Build(plain()); c != cookieOf("key", plain()) || err != api.OK {
		t.Errorf("what has no key takes none: %x, %d", c, err)
	}
}

// O2: what is built is built under the new key, and is what Build makes of it.
func TestKeysBuild(t *testing.T) {
	for first := range keys() {
		var k cookie.Keys
		for i := range keys() {
			key := keys()[(first+i)%len(keys())]
			k.Turn(key, i)
			for _, s := range []cookie.State{plain(), small(), large(), {}, lived(-1, 5), lived(5, 1<<40+1)} {
				want, wantErr := cookie.Build(key, s)
				if c, err := k.Build(s); c != want || err != wantErr {
					t.Errorf("under key %.9q: Build of %#v: %x, %d, want %x, %d", key, s, c, err, want, wantErr)
				}
			}
		}
	}
}

// O2: after one Turn there is no old key: not even one without bytes, nor the
// new one itself.
func TestNoOldKey(t *testing.T) {
	for _, now := range []int{0, 1000, -5, math.MinInt, math.MaxInt} {
		var k cookie.Keys
		k.Turn("key", now)
		for _, at := range []int{0, 1000, 1400, 70000} {
			for _, c := range []string{cookieOf("", lived(1000, 500)), cookieOf("\x00", lived(1000, 500)), cookieOf("Key", lived(1000, 500)), signed("", "no state")} {
				wantNot(t, "under no key", &k, c, at, api.ErrSum)
			}
		}
		wantKept(t, "under the new key", &k, cookieOf("key", lived(1000, 500)), 1200, lived(1000, 500), api.OK)
	}
}

// O2: a text without bytes is a key as any other: the new one, and the old one.
func TestEmptyKey(t *testing.T) {
	var k cookie.Keys
	s := lived(1000, 1<<40)
	k.Turn("", 0)
	if c, err := k.Build(s); c != cookieOf("", s) || err != api.OK {
		t.Errorf("Build: %x, %d", c, err)
	}
	wantKept(t, "the new one", &k, cookieOf("", s), 5000, s, api.OK)
	wantNot(t, "short, under the new one", &k, "x", 5000, api.ErrShort)
	k.Turn("key", 6000)
	wantKept(t, "the old one", &k, cookieOf("", s), 66000, s, api.OK)
	wantNot(t, "the old one, too old", &k, cookieOf("", s), 66001, api.ErrSum)
	k.Turn("", 7000)
	wantKept(t, "ahead of the new one", &k, cookieOf("key", s), 7000, s, api.OK)
	wantKept(t, "the new one again", &k, cookieOf("", s), 99000, s, api.OK)
}

// O2: by the new key at all times, by the old one for 60000 milliseconds from
// when it was turned, by the one ahead of that no more. Who can't read a state
// can't tell whether it is stale either.
func TestOldKey(t *testing.T) {
	s := lived(0, 1<<40)
	for _, turned := range []int{0, 1, 1000, 59999, 60000, 60001, 1 << 31, 1<<40 - 60000, 1 << 40} {
		var k cookie.Keys
		k.Turn("first", turned/3)
		k.Turn("old", turned/2)
		k.Turn("new", turned)
		for _, after := range []int{0, 1, 200, 30000, 59998, 59999, 60000, 60001, 60002, 65536, 65537, 120000, 120001, 1 << 32, 1<<32 + 60000} {
			now, want, err := turned+after, s, api.OK
			if now > 1<<40 {
				want, err = cookie.State{}, api.ErrStale
			}
			wantKept(t, "under the new key", &k, cookieOf("new", s), now, want, err)
			if after > 60000 {
				want, err = cookie.State{}, api.ErrSum
			}
			wantKept(t, fmt.Sprintf("under the old key, turned at %d", turned), &k, cookieOf("old", s), now, want, err)
			wantNot(t, "under the first key", &k, cookieOf("first", s), now, api.ErrSum)
			wantNot(t, "under no key", &k, cookieOf("", s), now, api.ErrSum)
		}
	}
}

// O2: each Turn makes the one key old since then, whatever it was; the same one
// turned twice is both.
func TestTurns(t *testing.T) {
	var k cookie.Keys
	s := lived(0, 1<<40)
	k.Turn("a", 0)
	k.Turn("b", 100000)
	wantKept(t, "a, long since new", &k, cookieOf("a", s), 160000, s, api.OK)
	wantNot(t, "a, too old", &k, cookieOf("a", s), 160001, api.ErrSum)
	k.Turn("a", 170000)
	wantKept(t, "a, new again", &k, cookieOf("a", s), 900000, s, api.OK)
	wantKept(t, "b, old now", &k, cookieOf("b", s), 230000, s, api.OK)
	wantNot(t, "b, too old", &k, cookieOf("b", s), 230001, api.ErrSum)
	k.Turn("a", 180000)
	wantKept(t, "a, new and old", &k, cookieOf("a", s), 900000, s, api.OK)
	wantNot(t, "b, gone", &k, cookieOf("b", s), 180000, api.ErrSum)
	k.Turn("c", 190000)
	wantKept(t, "a, old now", &k, cookieOf("a", s), 250000, s, api.OK)
	wantNot(t, "a, too old", &k, cookieOf("a", s), 250001, api.ErrSum)
	wantKept(t, "a, asked again at a time ahead", &k, cookieOf("a", s), 200000, s, api.OK)
	wantNot(t, "b, still gone", &k, cookieOf("b", s), 190000, api.ErrSum)
}

// O2: at a time ahead of when it was turned, the old key is old for less than
// nothing, which is no more than 60000.
func TestAheadOfTheTurn(t *testing.T) {
	var k cookie.Keys
	s := lived(0, 1<<40)
	k.Turn("old", 0)
	k.Turn("new", 500000)
	for _, now := range []int{0, 1, 439999, 440000, 499999, 500000, 560000} {
		wantKept(t, "under the old key", &k, cookieOf("old", s), now, s, api.OK)
		wantKept(t, "under the new key", &k, cookieOf("new", s), now, s, api.OK)
	}
	k.Turn("newer", 100)
	wantKept(t, "turned at a time ahead", &k, cookieOf("new", s), 60100, s, api.OK)
	wantNot(t, "turned at a time ahead", &k, cookieOf("new", s), 60101, api.ErrSum)
}

// O2: times that are not meant: what is told is reckoned round, as P6 has it.
func TestFarTimes(t *testing.T) {
	far := []int{math.MinInt, math.MinInt + 1, math.MinInt + 60000, math.MinInt + 60001, -1 << 40, -60001, -60000, -1, 0, 1, 60000, 60001, 1 << 40, 1 << 41, 1<<41 + 1, math.MaxInt - 60001, math.MaxInt - 60000, math.MaxInt - 1, math.MaxInt}
	for _, turned := range far {
		var k cookie.Keys
		k.Turn("old", turned)
		k.Turn("new", turned)
		turns := []turn{{"old", turned}, {"new", turned}}
		for _, now := range far {
			for _, s := range []cookie.State{lived(0, 0), lived(0, 1<<40), lived(1<<40, 0), lived(1<<40, 1<<40), lived(1, 60000)} {
				for _, key := range []string{"old", "new", "none"} {
					want, err := keptByTheWords(turns, cookieOf(key, s), now)
					wantKept(t, fmt.Sprintf("turned at %d, under %s: %#v", turned, key, s), &k, cookieOf(key, s), now, want, err)
				}
			}
		}
	}
}

// O2: a state is stale more than Life after it was made, and ahead of then.
func TestStale(t *testing.T) {
	var k cookie.Keys
	k.Turn("key", 0)
	for _, made := range []int{0, 1, 1000, 1 << 31, 1<<40 - 1, 1 << 40} {
		for _, life := range []int{0, 1, 500, 60000, 60001, 1 << 32, 1<<40 - 1, 1 << 40} {
			s := lived(made, life)
			c := cookieOf("key", s)
			for _, now := range []int{made, made + 1, made + life/2, made + life - 1, made + life} {
				if made <= now && now <= made+life {
					wantKept(t, fmt.Sprintf("made %d, life %d", made, life), &k, c, now, s, api.OK)
				}
			}
			for _, now := range []int{made - 1, made - 2, made - 1000000, -1 - made, made + life + 1, made + life + 2, 3 << 40, math.MinInt, math.MaxInt} {
				wantNot(t, fmt.Sprintf("made %d, life %d", made, life), &k, c, now, api.ErrStale)
			}
			wantKept(t, "after all these", &k, c, made, s, api.OK)
		}
	}
}

// O2: of several errors the first is told: what can't be read is not stale, and
// only where the sum is another one the old key is asked.
func TestKeysOfSeveralErrors(t *testing.T) {
	var k cookie.Keys
	k.Turn("first", 0)
	k.Turn("old", 1000)
	k.Turn("new", 2000)
	s := lived(1000, 500)
	text := textByTheWords(s)
	for now, want := range map[int]api.Errno{999: api.ErrStale, 1000: api.OK, 1500: api.OK, 1501: api.ErrStale, 2000: api.ErrStale, 62000: api.ErrStale, 62001: api.ErrSum} {
		kept := s
		if want != api.OK {
			kept = cookie.State{}
		}
		wantKept(t, "under the old key", &k, signed("old", text), now, kept, want)
		wantNot(t, "under the old key, a byte more", &k, signed("old", text)+"x", now, api.ErrSum)
		wantNot(t, "under the first key", &k, signed("first", text), now, api.ErrSum)
		wantNot(t, "short", &k, signed("old", text)[:31], now, api.ErrShort)
		wantNot(t, "short, without bytes", &k, "", now, api.ErrShort)
		wantNot(t, "no state, under the new key", &k, signed("new", text+"x"), now, api.ErrForm)
		form := api.ErrForm
		if now > 62000 {
			form = api.ErrSum
		}
		wantNot(t, "no state, under the old key", &k, signed("old", text+"x"), now, form)
	}
	wantNot(t, "stale, under the new key, the old one too old", &k, signed("new", text), 62001, api.ErrStale)
}

// turn is a key, and when it became the new one.
type turn struct {
	key string
	now int
}

// keptByTheWords is what Keys that were turned so tell of a cookie.
func keptByTheWords(turns []turn, c string, now int) (cookie.State, api.Errno) {
	many := len(turns)
	if many == 0 {
		return cookie.State{}, api.ErrNone
	}
	s, err := readByTheWords(turns[many-1].key, c)
	if err == api.ErrSum && many > 1 {
		oldFor := now - turns[many-1].now
		if oldFor <= 60000 {
			s, err = readByTheWords(turns[many-2].key, c)
		}
	}
	if err != api.OK {
		return s, err
	}
	if now < s.Made || now > s.Made+s.Life {
		return cookie.State{}, api.ErrStale
	}
	return s, api.OK
}

// O2: any turns, any cookies, against the words.
func TestKeysOfAnything(t *testing.T) {
	chance, told := rand.New(rand.NewSource(4)), map[api.Errno]int{}
	for range 200 {
		var k cookie.Keys
		var turns []turn
		now := 0
		for range 60 {
			now += chance.Intn(2) * chance.Intn(40000)
			if chance.Intn(6) == 0 {
				one := turn{keys()[chance.Intn(7)], now}
				k.Turn(one.key, now)
				turns = append(turns, one)
			}
			s := lived(max(0, now-chance.Intn(90000)+200), chance.Intn(2)*chance.Intn(150000))
			s.OurTag = chance.Uint32() % 50
			key := keys()[chance.Intn(7)]
			if many := len(turns); many > 0 && chance.Intn(4) > 0 {
				key = turns[max(0, many-1-chance.Intn(3))].key
			}
			c := signed(key, textByTheWords(s)+strings.Repeat("x", chance.Intn(10)/9))
			if chance.Intn(10) == 0 {
				c = c[:chance.Intn(len(c))]
			}
			want, err := keptByTheWords(turns, c, now)
			told[err]++
			wantKept(t, fmt.Sprintf("turned %#v: %x", turns, c), &k, c, now, want, err)
			wantKept(t, "again", &k, c, now, want, err)
			if c, err := k.Build(s); len(turns) == 0 && err != api.ErrNone || len(turns) > 0 && err == api.OK && c != cookieOf(turns[len(turns)-1].key, s) {
				t.Errorf("turned %#v: Build told %x, %d", turns, c, err)
			}
		}
	}
	for _, err := range []api.Errno{api.OK, api.ErrNone, api.ErrShort, api.ErrSum, api.ErrForm, api.ErrStale} {
		if told[err] < 200 {
			t.Errorf("error %d was told %d times", err, told[err])
		}
	}
}

// O3: under one key what is read is what was handed in; the cookie of what was
// read is the same one.
func TestReadOfBuild(t *testing.T) {
	chance, many := rand.New(rand.NewSource(5)), 0
	for range 10000 {
		s, key := drawnState(chance), drawn(chance, chance.Intn(70))
		c, err := cookie.Build(key, s)
		if err != api.OK {
			continue
		}
		many++
		got, err := cookie.Read(key, c)
		if got != s || err != api.OK {
			t.Errorf("Read of Build of %#v: %#v, %d", s, got, err)
		}
		if again, err := cookie.Build(key, got); again != c || err != api.OK {
			t.Errorf("Build of what was read of %x: %x, %d", c, again, err)
		}
	}
	if many < 5000 {
		t.Errorf("but %d right states", many)
	}
}

// O3: a cookie is read till it is stale, if its key was turned but once
// meanwhile, and its Life is no more than CookieLife: whenever that was.
func TestReadTillStale(t *testing.T) {
	const made = 7000
	for _, life := range []int{0, 1, 500, 59999, 60000} {
		for _, turned := range []int{made, made + life/3, made + life/2, made + max(0, life-1), made + life} {
			what := fmt.Sprintf("Life %d, turned at %d", life, turned)
			var k cookie.Keys
			k.Turn("before", 100)
			k.Turn("key", 5000)
			s := lived(made, life)
			c, err := k.Build(s)
			if err != api.OK {
				t.Fatal(err)
			}
			for _, now := range []int{made, (made + turned) / 2, turned} {
				wantKept(t, what+", ahead of that", &k, c, now, s, api.OK)
			}
			k.Turn("another key", turned)
			for _, now := range []int{turned, (turned + made + life) / 2, made + max(life-1, turned-made), made + life} {
				wantKept(t, what, &k, c, now, s, api.OK)
			}
			if turned > made || life < 60000 { // else the key is too old by then, too
				wantNot(t, what, &k, c, made+life+1, api.ErrStale)
			}
		}
	}
}

// O3: a key that was turned twice reads no more; and one that was turned once
// only so long as CookieLife, whatever the Life is.
func TestReadNoLonger(t *testing.T) {
	var k cookie.Keys
	k.Turn("key", 0)
	s := lived(0, 60001)
	c, _ := k.Build(s)
	k.Turn("next", 0)
	wantKept(t, "at the last moment", &k, c, 60000, s, api.OK)
	wantNot(t, "not stale yet, but the key is too old", &k, c, 60001, api.ErrSum)
	k.Turn("the one after", 1)
	wantNot(t, "turned twice", &k, c, 1, api.ErrSum)
}

// P1 of all: long texts end too, and are told as what they are.
func TestLongOnes(t *testing.T) {
	long := strings.Repeat("towline!", 1<<20)
	wantRead(t, "a long text", "key", long, api.ErrSum)
	wantRead(t, "a long text, signed", "key", signed("key", long), api.ErrForm)
	wantRead(t, "under a long key", long, wantBuild(t, "under a long key", long, plain()), api.OK)
	wantRead(t, "a long Peer", "key", signed("key", textByTheWords(plain())[:53]+long), api.ErrForm)
	s := plain()
	s.Peer = long
	wantBuild(t, "a long Peer", "key", s)
	var k cookie.Keys
	for i := range 1 << 16 {
		k.Turn("many keys", i)
	}
	k.Turn(long, 1<<16)
	wantKept(t, "under a long new key", &k, cookieOf(long, lived(0, 1<<40)), 99999, lived(0, 1<<40), api.OK)
	wantKept(t, "under one of many", &k, cookieOf("many keys", lived(0, 1<<40)), 1<<16, lived(0, 1<<40), api.OK)
	wantNot(t, "a long text", &k, long, 1<<16, api.ErrSum)
}

// P3 of all: a key is kept so that a later change of what was handed in is not
// seen.
func TestKeysAreCopies(t *testing.T) {
	var k cookie.Keys
	bytes := []byte("key")
	k.Turn(unsafe.String(&bytes[0], len(bytes)), 0)
	copy(bytes, "old")
	s := lived(1000, 60000)
	if c, err := k.Build(s); c != cookieOf("key", s) || err != api.OK {
		t.Errorf("Build goes by what the key became: %x, %d", c, err)
	}
	k.Turn(unsafe.String(&bytes[0], len(bytes)), 1000)
	copy(bytes, "xyz")
	wantKept(t, "the old key", &k, cookieOf("key", s), 1000, s, api.OK)
	wantKept(t, "the new key", &k, cookieOf("old", s), 1000, s, api.OK)
}

// P3 of all: no text that is answered lies in one that was handed in.
func TestTextsAreNew(t *testing.T) {
	inside := func(s, d string) bool {
		at, from := uintptr(unsafe.Pointer(unsafe.StringData(s))), uintptr(unsafe.Pointer(unsafe.StringData(d)))
		return at >= from && at < from+uintptr(len(d))
	}
	var k cookie.Keys
	k.Turn("old", 0)
	k.Turn("key", 0)
	for _, s := range []cookie.State{lived(0, 0), large()} {
		for _, key := range []string{"old", "key"} {
			c := cookieOf(key, s)
			read, err := cookie.Read(key, c)
			kept, keptErr := k.Read(c, s.Made)
			if inside(read.Peer, c) || err != api.OK || s.Made == 0 && (inside(kept.Peer, c) || keptErr != api.OK) {
				t.Errorf("what was read of %x lies in it, or was not read: %d, %d", c, err, keptErr)
			}
		}
	}
}

// P3, P4 of all: what is read, built and refused changes nothing of what is told
// later; Keys know nothing of one another.
func TestKeysKnowNothingElse(t *testing.T) {
	var k, other cookie.Keys
	other.Turn("other", 0)
	k.Turn("old", 0)
	k.Turn("new", 1000)
	other.Turn("newer", 1000)
	s := lived(1000, 90000)
	asked := func(when string) {
		wantKept(t, when, &k, cookieOf("old", s), 61000, s, api.OK)
		wantNot(t, when, &k, cookieOf("old", s), 61001, api.ErrSum)
		wantNot(t, when, &k, cookieOf("other", s), 1000, api.ErrSum)
		wantNot(t, when, &other, cookieOf("new", s), 1000, api.ErrSum)
		wantKept(t, when, &other, cookieOf("other", s), 1000, s, api.OK)
		wantKept(t, when, &k, cookieOf("new", s), 1000, s, api.OK)
		wantNot(t, when, &k, cookieOf("new", s), 0, api.ErrStale)
		if c, err := k.Build(s); c != cookieOf("new", s) || err != api.OK {
			t.Errorf("%s: Build told %x, %d", when, c, err)
		}
		if c, err := k.Build(cookie.State{}); c != "" || err != api.ErrArg {
			t.Errorf("%s: Build told %x, %d", when, c, err)
		}
	}
	asked("at first")
	asked("then")
	copied := k
	copied.Turn("a copy's", 2000)
	asked("when a copy was turned")
}

// P4 of all: what is answered hangs on nothing that is asked at one time.
func TestAskedTogether(t *testing.T) {
	var asked sync.WaitGroup
	for from := range 8 {
		asked.Go(func() {
			chance := rand.New(rand.NewSource(int64(from)))
			for range 300 {
				s, key := drawnState(chance), keys()[chance.Intn(7)]
				var k cookie.Keys
				k.Turn(key, s.Made)
				c := wantBuild(t, "asked together", key, s)
				if c != "" {
					wantKept(t, "asked together", &k, c, s.Made, s, api.OK)
				}
			}
		})
	}
	asked.Wait()
}
