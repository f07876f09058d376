package ip_test

import (
	"fmt"
	"math/rand"
	"strings"
	"sync"
	"testing"
	"unsafe"

	"towline/api"
	"towline/ip"
)

var (
	from4 = "\x0a\x00\x00\x01"
	to4   = "\xc0\xa8\xff\xc7"
	from6 = "\x20\x01\x0d\xb8\x00\x01\x02\x03\x04\x05\x06\x07\x08\x09\x0a\x0b"
	to6   = "\xfe\x80\xff\xfe\xfd\xfc\xfb\xfa\x00\x00\x80\x7f\x01\x10\x00\xff"
)

func four(hops, mark int) ip.Header {
	return ip.Header{Version: 4, Hops: hops, Mark: mark, From: from4, To: to4}
}

func six(hops int) ip.Header {
	return ip.Header{Version: 6, Hops: hops, From: from6, To: to6}
}

// sumByTheWords adds pair by pair, what is above 16 bits at once.
func sumByTheWords(s string) uint16 {
	if len(s)%2 == 1 {
		s += "\x00"
	}
	sum := 0
	for i := 0; i < len(s); i += 2 {
		sum += int(s[i])*256 + int(s[i+1])
		if sum >= 65536 {
			sum -= 65535
		}
	}
	return uint16(65535 - sum)
}

// sealed is s with its check put into bytes 10 and 11.
func sealed(s string) string {
	sum := sumByTheWords(s[:10] + "\x00\x00" + s[12:20])
	return s[:10] + string([]byte{byte(sum / 256), byte(sum % 256)}) + s[12:]
}

// byTheWords is the datagram that the chapter's words make.
func byTheWords(h ip.Header, payload string) string {
	if h.Version == 6 {
		length := len(payload)
		return "\x60\x00\x00\x00" + string([]byte{byte(length / 256), byte(length % 256), 132, byte(h.Hops)}) + h.From + h.To + payload
	}
	length := 20 + len(payload)
	return sealed("\x45\x00" + string([]byte{byte(length / 256), byte(length % 256), byte(h.Mark / 256), byte(h.Mark % 256), 64, 0, byte(h.Hops), 132, 0, 0}) + h.From + h.To + payload)
}

// parsedByTheWords is the error that the chapter's words tell of a datagram.
func parsedByTheWords(d string) api.Errno {
	if len(d) == 0 {
		return api.ErrShort
	}
	switch d[0] / 16 {
	case 4:
		if len(d) < 20 {
			return api.ErrShort
		}
		if sealed(d) != d {
			return api.ErrSum
		}
		length := int(d[2])*256 + int(d[3])
		if d[0] != 69 || d[1] != 0 || d[6] != 64 || d[7] != 0 || d[9] != 132 || length < 20 {
			return api.ErrForm
		}
		return lengthByTheWords(len(d), length, 20)
	case 6:
		if len(d) < 40 {
			return api.ErrShort
		}
		if d[0] != 96 || d[1] != 0 || d[2] != 0 || d[3] != 0 || d[6] != 132 {
			return api.ErrForm
		}
		return lengthByTheWords(len(d), 40+int(d[4])*256+int(d[5]), 40)
	}
	return api.ErrForm
}

func lengthByTheWords(there, said, header int) api.Errno {
	if there < said {
		return api.ErrShort
	}
	if there > said || said-header > 1500 {
		return api.ErrLong
	}
	return api.OK
}

// drawn is as many bytes as are asked for, all kinds of them.
func drawn(chance *rand.Rand, length int) string {
	s := make([]byte, length)
	for i := range s {
		s[i] = byte(chance.Intn(256))
	}
	return string(s)
}

// put is s with these bytes at a place.
func put(s string, place int, bytes ...byte) string {
	return s[:place] + string(bytes) + s[place+len(bytes):]
}

func built(t *testing.T, h ip.Header, payload string) string {
	t.Helper()
	d, err := ip.Build(h, payload)
	if err != api.OK {
		t.Fatalf("Build(%v, %d bytes): %v", h, len(payload), err)
	}
	return d
}

// wantParse holds what is parsed of d against an error, and P2: with one,
// there is nothing else.
func wantParse(t *testing.T, what, d string, want api.Errno) {
	t.Helper()
	h, payload, err := ip.Parse(d)
	if err != want {
		t.Errorf("%s: Parse told %d, want %d", what, err, want)
	}
	if err != api.OK && (h != ip.Header{} || payload != "") {
		t.Errorf("%s: Parse told %d, and %v, %q", what, err, h, payload)
	}
}

// wantLike holds what is parsed of d against the chapter's words.
func wantLike(t *testing.T, what, d string) {
	t.Helper()
	want := parsedByTheWords(d)
	wantParse(t, what, d, want)
	if want != api.OK {
		return
	}
	h, payload, _ := ip.Parse(d)
	if again, err := ip.Build(h, payload); err != api.OK || again != d || byTheWords(h, payload) != d {
		t.Errorf("%s: Build of what was parsed: %q, want %q", what, again, d)
	}
}

func TestConstants(t *testing.T) {
	if ip.V4 != 4 || ip.V6 != 6 || ip.Protocol != 132 {
		t.Error(ip.V4, ip.V6, ip.Protocol)
	}
}

// I1: sums that are known, the chapter's first.
func TestKnownSums(t *testing.T) {
	for _, c := range []struct {
		s    string
		want uint16
	}{
		{"\x45\x00\x00\x73\x00\x00\x40\x00\x40\x11\x00\x00\xc0\xa8\x00\x01\xc0\xa8\x00\xc7", 0xb861},
		{"\x45\x00\x00\x73\x00\x00\x40\x00\x40\x11\xb8\x61\xc0\xa8\x00\x01\xc0\xa8\x00\xc7", 0},
		{"\x00\x01\xf2\x03\xf4\xf5\xf6\xf7", 0x220d},
		{"", 0xffff}, {"\x00", 0xffff}, {"\x00\x00", 0xffff}, {"\x00\x00\x00", 0xffff},
		{"\x01", 0xfeff}, {"\x00\x01", 0xfffe}, {"\x01\x00", 0xfeff}, {"\xff", 0x00ff}, {"\x80", 0x7fff},
		{"\x12\x34", 0xedcb}, {"\x12\x34\x56", 0x97cb}, {"\x12\x34\x00\x56", 0xed75},
		{"\xff\xff", 0}, {"\xff\xff\xff\xff", 0}, {"\xff\xff\x00\x01", 0xfffe}, {"\xff\xff\x00\x00", 0},
		{"\x80\x00\x80\x00", 0xfffe}, {"\x80\x00\x7f\xff", 0}, {"\xff\xfe\x00\x01", 0},
		{"\xff\xff\xff\xff\x00\x01", 0xfffe}, {"\xff\xff\xff", 0x00ff},
		{"\xc3\xa4", 0x3c5b}, {"ä€", 0xadd7},
	} {
		if got := ip.Check16(c.s); got != c.want || got != sumByTheWords(c.s) {
			t.Errorf("Check16(%q) = %#04x, want %#04x", c.s, got, c.want)
		}
	}
}

// I1: each pair, alone and added to another one.
func TestCheck16OfEachPair(t *testing.T) {
	for n := range 65536 {
		pair := string([]byte{byte(n / 256), byte(n % 256)})
		if got := ip.Check16(pair); int(got) != 65535-n {
			t.Fatalf("Check16(%q) = %d", pair, got)
		}
		for _, other := range []string{"\xff\xff", "\x80\x01", "\x00\x00", "\x01", "\xff", pair} {
			if got := ip.Check16(pair + other); got != sumByTheWords(pair+other) {
				t.Fatalf("Check16(%q) = %d, want %d", pair+other, got, sumByTheWords(pair+other))
			}
		}
	}
}

// I1: texts of each short length, and of some long ones, whose pairs fill more
// than 16 and more than 32 bits.
func TestCheck16OfEachLength(t *testing.T) {
	chance := rand.New(rand.NewSource(1))
	lengths := []int{1500, 1501, 65535, 131072, 131073, 1 << 20, 1<<20 + 1, 7<<20 + 3}
	for length := range 300 {
		lengths = append(lengths, length)
	}
	for _, length := range lengths {
		for _, s := range []string{drawn(chance, length), strings.Repeat("\xff", length), strings.Repeat("\x00", length), strings.Repeat("\x01", length)} {
			if got := ip.Check16(s); got != sumByTheWords(s) {
				t.Errorf("Check16 of %d bytes, the first %.1q: %d, want %d", length, s, got, sumByTheWords(s))
			}
		}
	}
}

// I1: what is right, and each thing for which it is not.
func TestRight(t *testing.T) {
	with := func(h ip.Header, change func(*ip.Header)) ip.Header {
		change(&h)
		return h
	}
	const most, least = int(^uint(0) >> 1), -int(^uint(0)>>1) - 1
	for _, hops := range []int{0, 1, 64, 128, 254, 255, -1, 256, 257, -256, 511, 65536, 1 << 32, most, least} {
		right := hops == hops&255
		if ip.Right(four(hops, 5)) != right || ip.Right(six(hops)) != right {
			t.Errorf("Hops %d: right: %v", hops, !right)
		}
	}
	for _, mark := range []int{0, 1, 255, 256, 32768, 65534, 65535, -1, 65536, 65537, -65536, 1 << 32, most, least} {
		right := mark == mark&65535
		if ip.Right(four(64, mark)) != right {
			t.Errorf("Mark %d of V4: right: %v", mark, !right)
		}
		if ip.Right(with(six(64), func(h *ip.Header) { h.Mark = mark })) != (mark == 0) {
			t.Errorf("Mark %d of V6: right: %v", mark, mark != 0)
		}
	}
	for _, version := range []int{-4, -1, 0, 1, 2, 3, 4, 5, 6, 7, 8, 10, 14, 46, 64, 260, 262, 1<<32 + 4, most, least} {
		if ip.Right(with(four(64, 0), func(h *ip.Header) { h.Version = version })) != (version == 4) ||
			ip.Right(with(six(64), func(h *ip.Header) { h.Version = version })) != (version == 6) {
			t.Errorf("Version %d is taken for another one", version)
		}
	}
	if ip.Right(ip.Header{}) || ip.Right(ip.Header{Version: 4}) || ip.Right(ip.Header{Version: 6}) {
		t.Error("a header without addresses is right")
	}
}

// I1: addresses of each length, the two alike or not.
func TestRightOfAddresses(t *testing.T) {
	for from := range 70 {
		for to := range 70 {
			h := ip.Header{Hops: 64, From: strings.Repeat("f", from), To: strings.Repeat("t", to)}
			for version := range 9 {
				h.Version = version
				right := version == 4 && from == 4 && to == 4 || version == 6 && from == 16 && to == 16
				if ip.Right(h) != right {
					t.Errorf("Version %d, addresses of %d and %d bytes: right: %v", version, from, to, !right)
				}
			}
		}
	}
	if ip.Right(ip.Header{Version: 4, From: "äöü€", To: "äöü€"}) || !ip.Right(ip.Header{Version: 4, From: "äö", To: "\xff\xff\xff\xff"}) {
		t.Error("addresses are not reckoned by bytes")
	}
}

// I1: datagrams, written out.
func TestBuildWrittenOut(t *testing.T) {
	d := built(t, ip.Header{Version: 4, Hops: 64, Mark: 0x0102, From: "\x0a\x00\x00\x01", To: "\x0a\x00\x00\x02"}, "abc")
	if want := "\x45\x00\x00\x17\x01\x02\x40\x00\x40\x84\x25\x5f\x0a\x00\x00\x01\x0a\x00\x00\x02abc"; d != want {
		t.Errorf("of V4: %q, want %q", d, want)
	}
	d = built(t, ip.Header{Version: 6, Hops: 9, From: from6, To: to6}, "abc")
	if want := "\x60\x00\x00\x00\x00\x03\x84\x09" + from6 + to6 + "abc"; d != want {
		t.Errorf("of V6: %q, want %q", d, want)
	}
}

// I1: the chapter's words, with each Hops, many a Mark, and payloads of each
// length up to the most.
func TestBuild(t *testing.T) {
	payload := drawn(rand.New(rand.NewSource(2)), 1500)
	for length := range len(payload) + 1 {
		for _, h := range []ip.Header{four(length%256, length*43), six(length % 256)} {
			d := built(t, h, payload[:length])
			if d != byTheWords(h, payload[:length]) {
				t.Fatalf("Build(%v, %d bytes) = %q", h, length, d)
			}
			if h.Version == 4 && ip.Check16(d[:20]) != 0 { // I4
				t.Errorf("Build(%v, %d bytes): the header's sum, with its check in it, is %d", h, length, ip.Check16(d[:20]))
			}
		}
	}
	for mark := range 65536 {
		if d := built(t, four(255, mark), "x"); d != byTheWords(four(255, mark), "x") || ip.Check16(d[:20]) != 0 {
			t.Fatalf("Mark %d: %q", mark, d)
		}
	}
}

// I1: the check is of the header alone: the payload changes it only by its length.
func TestThePayloadIsNotInTheCheck(t *testing.T) {
	a, b := built(t, four(1, 2), "abcd"), built(t, four(1, 2), "\xff\xff\xff\x00")
	if a[:20] != b[:20] || a[20:] != "abcd" || b[20:] != "\xff\xff\xff\x00" {
		t.Errorf("%q, %q", a, b)
	}
	wantParse(t, "another payload", a[:20]+"zyxw", api.OK)
}

// I1, P2: ErrArg, then ErrLong; and no datagram with them.
func TestBuildErrors(t *testing.T) {
	long := strings.Repeat("x", 1501)
	wrong := []ip.Header{
		{}, {Version: 5, From: from4, To: to4}, {Version: 4, From: from6, To: to6}, {Version: 6, From: from4, To: to4},
		{Version: 4, From: from4, To: to6}, {Version: 6, From: from4, To: to6}, {Version: 4, From: from4[:3], To: to4}, {Version: 6, From: from6, To: to6 + "x"},
		four(-1, 0), four(256, 0), four(0, -1), four(0, 65536), six(-1), six(256), {Version: 6, Mark: 1, From: from6, To: to6},
	}
	for _, h := range wrong {
		for _, payload := range []string{"", "abc", long[1:], long} {
			if d, err := ip.Build(h, payload); err != api.ErrArg || d != "" || ip.Right(h) {
				t.Errorf("Build(%v, %d bytes) = %q, %d", h, len(payload), d, err)
			}
		}
	}
	for _, h := range []ip.Header{four(64, 1), six(64)} {
		for _, payload := range []string{long, long + "x", strings.Repeat(long, 50)} {
			if d, err := ip.Build(h, payload); err != api.ErrLong || d != "" {
				t.Errorf("Build(%v, %d bytes) = %.10q, %d", h, len(payload), d, err)
			}
		}
		if d := built(t, h, long[1:]); !strings.HasSuffix(d, long[1:]) {
			t.Errorf("Build(%v, 1500 bytes): %.50q", h, d)
		}
	}
}

// I2, I4: Parse of Build is what was handed in.
func TestParseOfBuild(t *testing.T) {
	chance := rand.New(rand.NewSource(3))
	for i := range 20000 {
		h := ip.Header{Version: 4, Hops: chance.Intn(256), Mark: chance.Intn(65536), From: drawn(chance, 4), To: drawn(chance, 4)}
		if i%2 == 1 {
			h = ip.Header{Version: 6, Hops: chance.Intn(256), From: drawn(chance, 16), To: drawn(chance, 16)}
		}
		payload := drawn(chance, chance.Intn(60))
		if i%100 < 2 {
			payload = drawn(chance, 1500-chance.Intn(3))
		}
		got, s, err := ip.Parse(built(t, h, payload))
		if got != h || s != payload || err != api.OK {
			t.Fatalf("Parse of Build(%v, %q) = %v, %q, %d", h, payload, got, s, err)
		}
	}
}

// I2: a datagram that is cut, or has more behind it, at each length.
func TestParseCut(t *testing.T) {
	for _, h := range []ip.Header{four(64, 7), six(64)} {
		for _, payload := range []string{"", "a", "abc", strings.Repeat("p", 1499), strings.Repeat("p", 1500)} {
			d := built(t, h, payload)
			for length := range d {
				wantParse(t, fmt.Sprintf("Version %d, %d bytes of %d", h.Version, length, len(d)), d[:length], api.ErrShort)
			}
			for _, more := range []string{"x", "\x00", "\x00\x00\x00", d, strings.Repeat("x", 1500)} {
				wantParse(t, fmt.Sprintf("Version %d, %d bytes and %d more", h.Version, len(d), len(more)), d+more, api.ErrLong)
			}
		}
	}
}

// I2: each first byte, alone and ahead of others.
func TestParseFirstBytes(t *testing.T) {
	wantParse(t, "nothing", "", api.ErrShort)
	for b := range 256 {
		want := api.ErrForm
		if b/16 == 4 || b/16 == 6 {
			want = api.ErrShort
		}
		first := string([]byte{byte(b)})
		for _, behind := range []string{"", "x", strings.Repeat("\x00", 18)} {
			wantParse(t, fmt.Sprintf("byte %d and %d", b, len(behind)), first+behind, want)
		}
		for _, behind := range []string{strings.Repeat("\x00", 19), strings.Repeat("\x00", 38), strings.Repeat("\x00", 39), strings.Repeat("\xff", 1600)} {
			wantLike(t, fmt.Sprintf("byte %d and %d", b, len(behind)), first+behind)
		}
	}
}

// I2: each byte of a header made each other one; of V4 with the check as it
// was, and with one that is right.
func TestParseTurned(t *testing.T) {
	a, b := built(t, four(64, 258), "abc"), built(t, six(9), "abc")
	for by := range 256 {
		for place := range 20 {
			d := put(a, place, byte(by))
			wantLike(t, fmt.Sprintf("of V4, byte %d made %d", place, by), d)
			wantLike(t, fmt.Sprintf("of V4, byte %d made %d, sealed", place, by), sealed(d))
			if place != 0 && d != a {
				wantParse(t, fmt.Sprintf("of V4, byte %d made %d", place, by), d, api.ErrSum)
			}
		}
		for place := range 40 {
			wantLike(t, fmt.Sprintf("of V6, byte %d made %d", place, by), put(b, place, byte(by)))
		}
	}
}

// I2: what must be so of a byte, and what need not, written out.
func TestParseForm(t *testing.T) {
	a, b := built(t, four(64, 258), "abc"), built(t, six(9), "abc")
	for place, want := range []api.Errno{
		api.ErrForm, api.ErrForm, 4: 0, 0, api.ErrForm, api.ErrForm, 0, api.ErrForm, 12: 0, 0, 0, 0, 0, 0, 0, 0,
	} {
		if place == 2 || place == 3 || place == 10 || place == 11 {
			continue
		}
		for bit := range 8 {
			if place != 0 || bit < 4 {
				wantParse(t, fmt.Sprintf("of V4, bit %d of byte %d turned", bit, place), sealed(put(a, place, a[place]^1<<bit)), want)
			}
		}
	}
	for place := range 40 {
		want := api.OK
		if place < 4 || place == 6 {
			want = api.ErrForm
		}
		for bit := range 8 {
			if place != 4 && place != 5 && (place != 0 || bit < 4) {
				wantParse(t, fmt.Sprintf("of V6, bit %d of byte %d turned", bit, place), put(b, place, b[place]^1<<bit), want)
			}
		}
	}
}

// I2: lengths that are said, and those that are there.
func TestParseLengths(t *testing.T) {
	a, b := built(t, four(64, 258), "")[:20], built(t, six(9), "")[:40]
	saids := []int{0, 1, 3, 18, 19, 20, 21, 39, 40, 41, 60, 255, 256, 257, 1499, 1500, 1501, 1502, 1519, 1520, 1521, 1540, 1541, 5000, 32768, 65535}
	payload := strings.Repeat("p", 65600)
	for _, said := range saids {
		for _, there := range []int{said - 21, said - 20, said - 19, said - 1, said, said + 1, said + 20, 0, 1499, 1500, 1501} {
			there = max(there, 0)
			d := sealed(put(a, 2, byte(said/256), byte(said%256))) + payload[:there]
			wantLike(t, fmt.Sprintf("of V4, %d said, %d there", said, 20+there), d)
			d = put(b, 4, byte(said/256), byte(said%256)) + payload[:there]
			wantLike(t, fmt.Sprintf("of V6, %d said, %d there", said, there), d)
		}
	}
	for _, c := range []struct {
		said, there int
		want        api.Errno
	}{{19, 20, api.ErrForm}, {0, 20, api.ErrForm}, {20, 20, 0}, {20, 21, api.ErrLong}, {21, 20, api.ErrShort}, {1520, 1520, 0}, {1521, 1521, api.ErrLong}, {1521, 1520, api.ErrShort}, {1520, 1521, api.ErrLong}, {65535, 65535, api.ErrLong}, {65535, 65534, api.ErrShort}} {
		said := []byte{byte(c.said / 256), byte(c.said % 256)}
		wantParse(t, fmt.Sprintf("of V4, %d said, %d there", c.said, c.there), sealed(put(a, 2, said...))+payload[:c.there-20], c.want)
		if c.said >= 20 {
			said = []byte{byte((c.said - 20) / 256), byte((c.said - 20) % 256)}
			wantParse(t, fmt.Sprintf("of V6, %d said, %d there", c.said+20, c.there+20), put(b, 4, said...)+payload[:c.there-20], c.want)
		}
	}
}

// I2: of several errors the first: too short a header, then the check, then
// the form, then the length.
func TestParseFirstError(t *testing.T) {
	a, b := built(t, four(64, 258), "abc"), built(t, six(9), "abc")
	wrong := put(a, 9, 6) // the check is another one now, too
	for _, c := range []struct {
		what, d string
		want    api.Errno
	}{
		{"neither 4 nor 6, short, and the check", "\x55" + a[1:19], api.ErrForm},
		{"short, the form and the check", wrong[:19], api.ErrShort},
		{"the form and the check", wrong, api.ErrSum},
		{"the check, and short", put(a, 4, 9)[:22], api.ErrSum},
		{"the check, and long", put(a, 4, 9) + "x", api.ErrSum},
		{"the check, and a length below 20", put(a, 3, 1), api.ErrSum},
		{"the check, and 6 words", put(a, 0, 0x46), api.ErrSum},
		{"the form, and short", sealed(wrong)[:22], api.ErrForm},
		{"the form, and long", sealed(wrong) + "x", api.ErrForm},
		{"a length below 20, and long", sealed(put(a, 3, 1)), api.ErrForm},
		{"of V6, short, and the form", put(b, 6, 6)[:39], api.ErrShort},
		{"of V6, the form, and short", put(b, 6, 6)[:40], api.ErrForm},
		{"of V6, the form, and long", put(b, 1, 1) + "x", api.ErrForm},
		{"of V6, short of a length above the most", put(b, 4, 0xff, 0xff), api.ErrShort},
	} {
		wantParse(t, c.what, c.d, c.want)
		wantLike(t, c.what, c.d)
	}
}

// I2: a check of 0 is not the same as one of 65535, though a sum over all of
// the header can't tell them apart.
func TestParseOfTheTwoNoughts(t *testing.T) {
	found := 0
	for mark := range 65536 {
		d := built(t, four(64, mark), "abc")
		if d[10:12] != "\x00\x00" {
			continue
		}
		found++
		wantParse(t, "a check of 0", d, api.OK)
		other := put(d, 10, 0xff, 0xff)
		wantParse(t, "a check of 65535 for 0", other, api.ErrSum)
		if ip.Check16(d[:20]) != 0 || ip.Check16(other[:20]) != 0 {
			t.Error("a header with its check in it does not sum up to 0")
		}
	}
	if found == 0 {
		t.Error("no Mark makes a check of 0")
	}
}

// I2: no check but one is taken.
func TestParseOfEachCheck(t *testing.T) {
	d, taken := built(t, four(3, 1027), "xyz"), 0
	for check := range 65536 {
		other := put(d, 10, byte(check/256), byte(check%256))
		want := api.ErrSum
		if other == d {
			want = api.OK
			taken++
		}
		wantParse(t, fmt.Sprintf("check %d", check), other, want)
	}
	if taken != 1 {
		t.Errorf("%d checks are taken", taken)
	}
}

// I2, TH4: any bytes, and datagrams with some bytes made others, against the
// chapter's words.
func TestParseOfAnything(t *testing.T) {
	chance := rand.New(rand.NewSource(4))
	for i := range 60000 {
		d := drawn(chance, chance.Intn(80))
		if i%3 > 0 {
			d = byTheWords(four(chance.Intn(256), chance.Intn(65536)), drawn(chance, chance.Intn(30)))
			if i%3 == 2 {
				d = byTheWords(six(chance.Intn(256)), drawn(chance, chance.Intn(30)))
			}
			for range chance.Intn(3) {
				d = put(d, chance.Intn(min(len(d), 20)), byte(chance.Intn(256)))
			}
			if chance.Intn(2) == 0 && d[0]/16 == 4 {
				d = sealed(d)
			}
			d = (d + drawn(chance, 3))[:len(d)+max(0, chance.Intn(6)-2)]
		}
		wantLike(t, fmt.Sprintf("%q", d), d)
	}
}

// I3: addresses, written out; of other lengths nothing.
func TestText(t *testing.T) {
	for _, c := range []struct{ address, want string }{
		{"\x0a\x00\x00\x01", "10.0.0.1"}, {"\x00\x00\x00\x00", "0.0.0.0"}, {"\xff\xff\xff\xff", "255.255.255.255"}, {"\x01\x0a\x64\xc8", "1.10.100.200"},
		{"äö", "195.164.195.182"}, {"1234", "49.50.51.52"},
		{"\x20\x01\x0d\xb8" + strings.Repeat("\x00", 11) + "\x01", "2001:db8:0:0:0:0:0:1"},
		{strings.Repeat("\x00", 16), "0:0:0:0:0:0:0:0"}, {strings.Repeat("\xff", 16), "ffff:ffff:ffff:ffff:ffff:ffff:ffff:ffff"},
		{from6, "2001:db8:1:203:405:607:809:a0b"}, {to6, "fe80:fffe:fdfc:fbfa:0:807f:110:ff"},
		{"\x00\x00\x00\x01\x00\x10\x01\x00\x10\x00\xab\xcd\x0e\xf0\x00\x09", "0:1:10:100:1000:abcd:ef0:9"},
		{strings.Repeat("\x00", 10) + "\xff\xff\x0a\x00\x00\x01", "0:0:0:0:0:ffff:a00:1"},
	} {
		if got := ip.Text(c.address); got != c.want {
			t.Errorf("Text(%q) = %q, want %q", c.address, got, c.want)
		}
	}
	for length := range 1600 {
		got := ip.Text(strings.Repeat("\x01", length))
		if (got != "") != (length == 4 || length == 16) {
			t.Errorf("Text of %d bytes: %q", length, got)
		}
	}
}

// I3: each byte, and each number of 16 bits, at each of its places.
func TestTextOfEachNumber(t *testing.T) {
	for n := range 65536 {
		for place := range 8 {
			words := strings.Split("0:0:0:0:0:0:0:0", ":")
			words[place] = fmt.Sprintf("%x", n)
			address := put(strings.Repeat("\x00", 16), 2*place, byte(n/256), byte(n%256))
			if got := ip.Text(address); got != strings.Join(words, ":") {
				t.Fatalf("Text(%q) = %q", address, got)
			}
			if n < 256 && place < 4 {
				words = strings.Split("0.0.0.0", ".")
				words[place] = fmt.Sprint(n)
				if got := ip.Text(put("\x00\x00\x00\x00", place, byte(n))); got != strings.Join(words, ".") {
					t.Fatalf("%d at %d: %q", n, place, got)
				}
			}
		}
	}
}

// P1: long texts end too, and are told as what they are.
func TestLongOnes(t *testing.T) {
	long := strings.Repeat("\x45towline", 1<<21)
	if _, err := ip.Build(four(1, 1), long); err != api.ErrLong {
		t.Error("Build:", err)
	}
	if _, err := ip.Build(ip.Header{Version: 4, From: long, To: long}, long); err != api.ErrArg {
		t.Error("Build with long addresses:", err)
	}
	wantLike(t, "a long text", long)
	wantParse(t, "a long text of V4", built(t, four(1, 1), "abc")+long, api.ErrLong)
	wantParse(t, "a long text of V6", built(t, six(1), "abc")+long, api.ErrLong)
	wantParse(t, "a long text of neither", "\x75"+long, api.ErrForm)
	if ip.Text(long) != "" || ip.Check16(long) != sumByTheWords(long) {
		t.Error("a long text")
	}
}

// P3: what is answered lies in no memory that was handed in.
func TestAnswersAreNew(t *testing.T) {
	inside := func(s, d string) bool {
		at, from := uintptr(unsafe.Pointer(unsafe.StringData(s))), uintptr(unsafe.Pointer(unsafe.StringData(d)))
		return at >= from && at < from+uintptr(len(d))
	}
	for _, h := range []ip.Header{four(1, 1), six(1)} {
		payload := strings.Repeat("a payload", 9)
		d := built(t, h, payload)
		got, s, _ := ip.Parse(d)
		if inside(s, d) || inside(got.From, d) || inside(got.To, d) || inside(d, payload) || s != payload {
			t.Errorf("Version %d: an answer lies in what was handed in", h.Version)
		}
	}
}

// P4: what is answered hangs on nothing that is asked before, or at one time.
func TestAskedTogether(t *testing.T) {
	var asked sync.WaitGroup
	for from := range 8 {
		asked.Go(func() {
			for i := range 3000 {
				h := four((i+from)%256, i*from)
				if (i+from)%2 == 1 {
					h = six((i * from) % 256)
				}
				payload := strings.Repeat("p", (i+from)%40)
				d, err := ip.Build(h, payload)
				got, s, errParse := ip.Parse(d)
				if err != api.OK || errParse != api.OK || got != h || s != payload || d != byTheWords(h, payload) || ip.Text(h.From) == ip.Text(h.To) {
					t.Errorf("asked together: %v, %q: %v, %q, %d, %d", h, payload, got, s, err, errParse)
				}
			}
		})
	}
	asked.Wait()
}
