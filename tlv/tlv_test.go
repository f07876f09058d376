package tlv_test

import (
	"fmt"
	"math/rand"
	"slices"
	"strings"
	"sync"
	"testing"
	"unsafe"

	"towline/api"
	"towline/tlv"
)

const (
	most  = int(^uint(0) >> 1)
	least = -most - 1
)

// builtByTheWords is what the chapter's words make of items.
func builtByTheWords(l []tlv.Item) (string, api.Errno) {
	for _, item := range l {
		if item.Type < 0 || item.Type > 65535 {
			return "", api.ErrArg
		}
	}
	row := []byte{}
	for _, item := range l {
		if len(item.Value) > 1400 {
			return "", api.ErrLong
		}
		length := 4 + len(item.Value)
		row = append(row, byte(item.Type/256), byte(item.Type%256), byte(length/256), byte(length%256))
		row = append(row, item.Value...)
		for len(row)%4 != 0 {
			row = append(row, 0)
		}
	}
	if len(row) > 4000 {
		return "", api.ErrLong
	}
	return string(row), api.OK
}

// parsedByTheWords is what the chapter's words tell of a row. It goes byte by
// byte: an item begins where the one ahead, with what stands for its noughts,
// ends.
func parsedByTheWords(s string) ([]tlv.Item, int, api.Errno) {
	if len(s) > 4000 {
		return nil, 0, api.ErrLong
	}
	l := []tlv.Item{}
	for at := 0; at < len(s); {
		left := s[at:]
		if len(left) < 4 {
			return nil, at, api.ErrShort
		}
		length := 256*int(left[2]) + int(left[3])
		if len(left) < length {
			return nil, at, api.ErrShort
		}
		if length < 4 {
			return nil, at, api.ErrForm
		}
		if length-4 > 1400 {
			return nil, at, api.ErrLong
		}
		end := length
		for ; end%4 != 0 && end < len(left); end++ {
			if left[end] != 0 {
				return nil, at, api.ErrForm
			}
		}
		l = append(l, tlv.Item{Type: 256*int(left[0]) + int(left[1]), Value: left[4:length]})
		at += end
	}
	return l, 0, api.OK
}

// drawn is as many bytes as are asked for, all kinds of them.
func drawn(chance *rand.Rand, length int) string {
	s := make([]byte, length)
	for i := range s {
		s[i] = byte(chance.Intn(256))
	}
	return string(s)
}

// drawnItems are as many items as are asked for, their Values short.
func drawnItems(chance *rand.Rand, many, longest int) []tlv.Item {
	var l []tlv.Item
	for range many {
		l = append(l, tlv.Item{Type: chance.Intn(65536), Value: drawn(chance, chance.Intn(longest+1))})
	}
	return l
}

// put is s with these bytes at a place.
func put(s string, place int, bytes ...byte) string {
	return s[:place] + string(bytes) + s[place+len(bytes):]
}

// headed is a head that says this Type and length.
func headed(kind, length int) string {
	return string([]byte{byte(kind / 256), byte(kind % 256), byte(length / 256), byte(length % 256)})
}

func many(b string, times int) string { return strings.Repeat(b, times) }

func built(t *testing.T, l ...tlv.Item) string {
	t.Helper()
	row, err := tlv.Build(l)
	if err != api.OK {
		t.Fatalf("Build of %d items: %v", len(l), err)
	}
	return row
}

// wantBuild holds what is built against a row and an error, and P2.
func wantBuild(t *testing.T, what string, l []tlv.Item, want string, wantErr api.Errno) {
	t.Helper()
	if row, err := tlv.Build(l); row != want || err != wantErr {
		t.Errorf("%s: Build told %.99q (%d bytes), %d, want %.99q (%d bytes), %d", what, row, len(row), err, want, len(want), wantErr)
	}
}

// wantParse holds what is parsed against items, a place and an error, and P2:
// with an error there are no items.
func wantParse(t *testing.T, what, s string, want []tlv.Item, wantPlace int, wantErr api.Errno) {
	t.Helper()
	l, place, err := tlv.Parse(s)
	if !slices.Equal(l, want) || place != wantPlace || err != wantErr {
		t.Errorf("%s: Parse told %.99q (%d items), %d, %d, want %.99q (%d items), %d, %d", what, fmt.Sprint(l), len(l), place, err, fmt.Sprint(want), len(want), wantPlace, wantErr)
	}
}

// wantLike holds what is parsed of s against the chapter's words.
func wantLike(t *testing.T, what, s string) {
	t.Helper()
	want, place, err := parsedByTheWords(s)
	wantParse(t, what, s, want, place, err)
}

// wantBuiltLike holds what is built against the chapter's words.
func wantBuiltLike(t *testing.T, what string, l []tlv.Item) {
	t.Helper()
	want, err := builtByTheWords(l)
	wantBuild(t, what, l, want, err)
}

// T1: Pad, written out, and for any number: a multiple of 4 is made, by 0 to 3;
// below 0 there are none.
func TestPad(t *testing.T) {
	for n, want := range []int{0, 3, 2, 1, 0, 3, 2, 1, 0} {
		if got := tlv.Pad(n); got != want {
			t.Errorf("Pad(%d) = %d, want %d", n, got, want)
		}
	}
	numbers := []int{1400, 1401, 1402, 1403, 65535, 65536, 1<<31 - 1, 1 << 31, 1<<32 + 1, 1<<62 + 2, most - 4, most - 3, most - 2, most - 1, most}
	for n := range 5000 {
		numbers = append(numbers, n)
	}
	for _, n := range numbers {
		if got := tlv.Pad(n); got < 0 || got > 3 || (n%4+got)%4 != 0 {
			t.Errorf("Pad(%d) = %d", n, got)
		}
	}
	for _, n := range []int{-1, -2, -3, -4, -5, -6, -7, -8, -1401, -1 << 31, -1<<32 - 1, least + 3, least + 2, least + 1, least} {
		if got := tlv.Pad(n); got != 0 {
			t.Errorf("Pad(%d) = %d, want 0", n, got)
		}
	}
}

// T1: rows, written out; the chapter's first.
func TestBuildWrittenOut(t *testing.T) {
	for _, c := range []struct {
		l    []tlv.Item
		want string
	}{
		{[]tlv.Item{{Type: 1, Value: "abc"}, {Type: 2}}, "\x00\x01\x00\x07abc\x00\x00\x02\x00\x04"},
		{nil, ""},
		{[]tlv.Item{}, ""},
		{[]tlv.Item{{}}, "\x00\x00\x00\x04"},
		{[]tlv.Item{{Type: 65535}}, "\xff\xff\x00\x04"},
		{[]tlv.Item{{Type: 0x1234, Value: "a"}}, "\x12\x34\x00\x05a\x00\x00\x00"},
		{[]tlv.Item{{Type: 1, Value: "ab"}}, "\x00\x01\x00\x06ab\x00\x00"},
		{[]tlv.Item{{Type: 1, Value: "abcd"}}, "\x00\x01\x00\x08abcd"},
		{[]tlv.Item{{Type: 1, Value: "abcde"}}, "\x00\x01\x00\x09abcde\x00\x00\x00"},
		{[]tlv.Item{{Type: 1, Value: "\x00"}}, "\x00\x01\x00\x05\x00\x00\x00\x00"},
		{[]tlv.Item{{Type: 1, Value: "\x00\x00\x00\x00"}}, "\x00\x01\x00\x08\x00\x00\x00\x00"},
		{[]tlv.Item{{Type: 1, Value: "ä\xff"}}, "\x00\x01\x00\x07\xc3\xa4\xff\x00"},
		{[]tlv.Item{{Type: 2, Value: "b"}, {Type: 1, Value: "a"}, {Type: 2, Value: "b"}}, "\x00\x02\x00\x05b\x00\x00\x00\x00\x01\x00\x05a\x00\x00\x00\x00\x02\x00\x05b\x00\x00\x00"},
		{[]tlv.Item{{Type: 256, Value: many("v", 252)}}, "\x01\x00\x01\x00" + many("v", 252)},
		{[]tlv.Item{{Type: 255, Value: many("v", 251)}}, "\x00\xff\x00\xff" + many("v", 251) + "\x00"},
		{[]tlv.Item{{Type: 5, Value: many("v", 1400)}}, "\x00\x05\x05\x7c" + many("v", 1400)},
		{[]tlv.Item{{Type: 5, Value: many("v", 1399)}}, "\x00\x05\x05\x7b" + many("v", 1399) + "\x00"},
	} {
		wantBuild(t, fmt.Sprint(c.l), c.l, c.want, api.OK)
	}
}

// T1, T4: each Type, and Values of each length up to the most.
func TestBuildOfEachTypeAndLength(t *testing.T) {
	for kind := range 65536 {
		l := []tlv.Item{{Type: kind, Value: "v"}}
		wantBuild(t, fmt.Sprintf("Type %d", kind), l, headed(kind, 5)+"v\x00\x00\x00", api.OK)
		wantParse(t, fmt.Sprintf("Type %d", kind), headed(kind, 5)+"v\x00\x00\x00", l, 0, api.OK)
	}
	value := drawn(rand.New(rand.NewSource(1)), 1400)
	for length := range len(value) + 1 {
		l := []tlv.Item{{Type: 7, Value: value[:length]}, {Type: 8, Value: value[1400-length:]}}
		row := built(t, l...)
		wantBuiltLike(t, fmt.Sprintf("two of %d bytes", length), l)
		wantParse(t, fmt.Sprintf("two of %d bytes", length), row, l, 0, api.OK)
	}
}

// T1: a Type that is none, wherever it is, comes ahead of all that is long.
func TestBuildOfWrongTypes(t *testing.T) {
	long := tlv.Item{Type: 1, Value: many("v", 1401)}
	for _, kind := range []int{-1, -2, -256, -65535, -65536, 65536, 65537, 131071, 131072, 1 << 31, 1<<32 + 1, -1 << 32, most, least} {
		wrong, right := tlv.Item{Type: kind, Value: "v"}, tlv.Item{Type: 1, Value: "v"}
		for _, l := range [][]tlv.Item{
			{wrong}, {{Type: kind}}, {right, wrong}, {wrong, right}, {right, wrong, right}, {wrong, wrong},
			{long, wrong}, {wrong, long}, {{Type: kind, Value: long.Value}},
			append(slices.Repeat([]tlv.Item{right}, 3000), wrong),
		} {
			wantBuild(t, fmt.Sprintf("Type %d in %d items", kind, len(l)), l, "", api.ErrArg)
		}
	}
}

// T1: a Value may have 1400 bytes, wherever it stands, all 4000, noughts too.
func TestBuildOfLongOnes(t *testing.T) {
	of := func(length int) tlv.Item { return tlv.Item{Type: 9, Value: many("v", length)} }
	for _, c := range []struct {
		lengths []int
		want    api.Errno
	}{
		{[]int{1400}, api.OK}, {[]int{1401}, api.ErrLong}, {[]int{1402}, api.ErrLong}, {[]int{4000}, api.ErrLong}, {[]int{65531}, api.ErrLong}, {[]int{65532}, api.ErrLong}, {[]int{65536}, api.ErrLong},
		{[]int{0, 1401}, api.ErrLong}, {[]int{1401, 0}, api.ErrLong}, {[]int{3, 1401, 3}, api.ErrLong}, {[]int{1400, 1400}, api.OK},
		{[]int{1400, 1400, 1188}, api.OK}, {[]int{1400, 1400, 1187}, api.OK}, {[]int{1400, 1400, 1186}, api.OK}, {[]int{1400, 1400, 1185}, api.OK},
		{[]int{1400, 1400, 1189}, api.ErrLong}, {[]int{1400, 1400, 1190}, api.ErrLong}, {[]int{1400, 1400, 1191}, api.ErrLong}, {[]int{1400, 1400, 1192}, api.ErrLong}, {[]int{1400, 1400, 1400}, api.ErrLong},
		{[]int{1189, 1400, 1400}, api.ErrLong}, {[]int{1400, 1400, 1184, 0}, api.OK}, {[]int{1400, 1400, 1188, 0}, api.ErrLong}, {[]int{0, 0, 1400, 1400, 1177}, api.OK}, {[]int{0, 0, 1400, 1400, 1181}, api.ErrLong},
		{slices.Repeat([]int{0}, 1000), api.OK}, {slices.Repeat([]int{0}, 1001), api.ErrLong},
		{slices.Repeat([]int{1}, 500), api.OK}, {slices.Repeat([]int{1}, 501), api.ErrLong}, {append(slices.Repeat([]int{1}, 500), 0), api.ErrLong},
		{slices.Repeat([]int{5}, 333), api.OK}, {append(slices.Repeat([]int{5}, 333), 0), api.OK}, {append(slices.Repeat([]int{5}, 333), 1), api.ErrLong},
	} {
		var l []tlv.Item
		for _, length := range c.lengths {
			l = append(l, of(length))
		}
		want := ""
		if c.want == api.OK {
			want, _ = builtByTheWords(l)
		}
		wantBuild(t, fmt.Sprintf("%d Values, the first of %d bytes", len(l), c.lengths[0]), l, want, c.want)
		wantBuiltLike(t, fmt.Sprintf("%d Values, the first of %d bytes", len(l), c.lengths[0]), l)
		if c.want == api.OK {
			wantParse(t, "a long row", want, l, 0, api.OK) // T4
		}
	}
}

// T1, T4: items of all kinds, against the chapter's words, and parsed again;
// without the noughts behind the last one, too.
func TestParseOfBuild(t *testing.T) {
	chance := rand.New(rand.NewSource(2))
	wantParse(t, "nothing", built(t), nil, 0, api.OK)
	for i := range 30000 {
		l := drawnItems(chance, chance.Intn(6), 1+chance.Intn(20))
		if i%50 == 0 {
			l = drawnItems(chance, 1+chance.Intn(2), 1400)
		}
		wantBuiltLike(t, "items that are drawn", l)
		row := built(t, l...)
		wantParse(t, fmt.Sprintf("%q", row), row, l, 0, api.OK)
		if len(l) > 0 {
			pad := tlv.Pad(len(l[len(l)-1].Value))
			for missing := range pad + 1 {
				wantParse(t, fmt.Sprintf("%q, %d noughts missing", row, missing), row[:len(row)-missing], l, 0, api.OK)
			}
		}
	}
}

// T2: rows, written out; the chapter's first.
func TestParseWrittenOut(t *testing.T) {
	for _, c := range []struct {
		s     string
		want  []tlv.Item
		place int
		err   api.Errno
	}{
		{"\x00\x01\x00\x03", nil, 0, api.ErrForm},
		{"\x00\x01\x00\x05x\x01", nil, 0, api.ErrForm},
		{"", nil, 0, api.OK},
		{"\x00", nil, 0, api.ErrShort}, {"\x00\x01\x00", nil, 0, api.ErrShort}, {"\xff\xff\xff", nil, 0, api.ErrShort},
		{"\x00\x00\x00\x00", nil, 0, api.ErrForm}, {"\x00\x01\x00\x01", nil, 0, api.ErrForm}, {"\x00\x01\x00\x02", nil, 0, api.ErrForm},
		{"\x00\x01\x00\x04", []tlv.Item{{Type: 1}}, 0, api.OK},
		{"\xff\xfe\x00\x04", []tlv.Item{{Type: 65534}}, 0, api.OK},
		{"\x00\x01\x00\x05", nil, 0, api.ErrShort}, {"\x00\x01\xff\xff", nil, 0, api.ErrShort}, {"\x00\x01\x01\x04", nil, 0, api.ErrShort},
		{"\x00\x01\x00\x05x", []tlv.Item{{Type: 1, Value: "x"}}, 0, api.OK},
		{"\x00\x01\x00\x05x\x00", []tlv.Item{{Type: 1, Value: "x"}}, 0, api.OK},
		{"\x00\x01\x00\x05x\x00\x00", []tlv.Item{{Type: 1, Value: "x"}}, 0, api.OK},
		{"\x00\x01\x00\x05x\x00\x00\x00", []tlv.Item{{Type: 1, Value: "x"}}, 0, api.OK},
		{"\x00\x01\x00\x05x\x00\x00\x00\x00", nil, 8, api.ErrShort},
		{"\x00\x01\x00\x05x\x00\x01", nil, 0, api.ErrForm}, {"\x00\x01\x00\x05x\x01\x00\x00", nil, 0, api.ErrForm}, {"\x00\x01\x00\x05x\x00\x00\x80", nil, 0, api.ErrForm},
		{"\x00\x01\x00\x06xy\x00\x01", nil, 0, api.ErrForm}, {"\x00\x01\x00\x06xy\x01", nil, 0, api.ErrForm}, {"\x00\x01\x00\x07xyz\x01", nil, 0, api.ErrForm},
		{"\x00\x01\x00\x07xyz", []tlv.Item{{Type: 1, Value: "xyz"}}, 0, api.OK},
		{"\x00\x01\x00\x08wxyz", []tlv.Item{{Type: 1, Value: "wxyz"}}, 0, api.OK},
		{"\x00\x01\x00\x08wxyz\x01", nil, 8, api.ErrShort}, {"\x00\x01\x00\x08wxyz\x00", nil, 8, api.ErrShort},
		{"\x00\x01\x00\x08\x00\x01\x00\x03", []tlv.Item{{Type: 1, Value: "\x00\x01\x00\x03"}}, 0, api.OK},
		{"\x00\x01\x00\x04\x00\x01\x00\x03", nil, 4, api.ErrForm},
		{"\x00\x01\x00\x04\x00\x02\x00\x05ab", nil, 4, api.ErrForm},
		{"\x00\x01\x00\x04\x00\x02\x00\x06a", nil, 4, api.ErrShort},
		{"\x00\x01\x00\x05x\x00\x00\x00\x00\x02\x00", nil, 8, api.ErrShort},
		{"\x00\x01\x00\x05x\x00\x00\x00\x00\x02\x00\x04\x00\x03\x00\x06ab", []tlv.Item{{Type: 1, Value: "x"}, {Type: 2}, {Type: 3, Value: "ab"}}, 0, api.OK},
		{"\x00\x01\x00\x05x\x00\x00\x00\x00\x02\x00\x04\x00\x03\x00\x06ab\x00\xff", nil, 12, api.ErrForm},
	} {
		wantParse(t, fmt.Sprintf("%q", c.s), c.s, c.want, c.place, c.err)
		wantLike(t, fmt.Sprintf("%q", c.s), c.s)
	}
}

// T2: a row that is cut at each of its bytes, and one with more behind it.
func TestParseCut(t *testing.T) {
	l := []tlv.Item{{Type: 1, Value: "abc"}, {Type: 2}, {Type: 3, Value: "a"}, {Type: 4, Value: "abcdef"}, {Type: 5, Value: many("v", 300)}, {Type: 6, Value: "x"}}
	row := built(t, l...)
	begins, at := []int{}, 0
	for _, item := range l {
		begins = append(begins, at)
		at += (4 + len(item.Value) + 3) / 4 * 4
	}
	for length := range len(row) + 1 {
		i := len(begins) - 1
		for begins[i] > 0 && begins[i] >= length {
			i--
		}
		what := fmt.Sprintf("%d bytes of %d", length, len(row))
		switch {
		case length == 0:
			wantParse(t, what, "", nil, 0, api.OK)
		case length < begins[i]+4+len(l[i].Value):
			wantParse(t, what, row[:length], nil, begins[i], api.ErrShort)
		default:
			wantParse(t, what, row[:length], l[:i+1], 0, api.OK)
		}
		wantLike(t, what, row[:length])
		wantLike(t, what+", begun later", row[len(row)-length:])
	}
	for _, more := range []string{"\x00", "\x00\x00", "\x00\x00\x00", "\x01", "\xff\xff\xff"} {
		wantParse(t, "a row and "+more, row+more, nil, len(row), api.ErrShort)
	}
	wantParse(t, "a row and four noughts", row+"\x00\x00\x00\x00", nil, len(row), api.ErrForm)
}

// T2: each byte of a row made each other one.
func TestParseTurned(t *testing.T) {
	row := built(t, tlv.Item{Type: 258, Value: "a"}, tlv.Item{Type: 3, Value: "ab"}, tlv.Item{Type: 4}, tlv.Item{Type: 5, Value: "abc"}, tlv.Item{Type: 6, Value: "abcde"})
	for place := range row {
		for by := range 256 {
			turned := put(row, place, byte(by))
			wantLike(t, fmt.Sprintf("byte %d made %d", place, by), turned)
			wantLike(t, fmt.Sprintf("byte %d made %d, cut behind it", place, by), turned[:place+1])
		}
	}
}

// T2: each length that may be said, of as many bytes, one less, some more.
func TestParseOfEachLength(t *testing.T) {
	body := many("\x00", 4000)
	for said := range 65536 {
		for _, there := range []int{said - 1, said, said + 1, said + 3, 4000, 1403, 1404, 1405} {
			if there < 4 || there > 4000 {
				continue
			}
			s := headed(1, said) + body[:there-4]
			want := api.OK
			switch {
			case there < said:
				want = api.ErrShort
			case said < 4:
				want = api.ErrForm
			case said > 1404:
				want = api.ErrLong
			}
			if want != api.OK {
				wantParse(t, fmt.Sprintf("%d said, %d there", said, there), s, nil, 0, want)
			} else {
				wantLike(t, fmt.Sprintf("%d said, %d there", said, there), s)
			}
		}
	}
	for _, said := range []int{1404, 1405} {
		want, l := api.OK, []tlv.Item{{Type: 2}, {Type: 3, Value: body[:1400]}}
		place := 0
		if said == 1405 {
			want, l, place = api.ErrLong, nil, 4
		}
		wantParse(t, fmt.Sprintf("%d said in a second item", said), headed(2, 4)+headed(3, said)+body[:said-4], l, place, want)
	}
}

// T2: a row has 4000 bytes at most; that comes ahead of all else.
func TestParseOfLongRows(t *testing.T) {
	whole := many("\x00\x09\x00\x04", 1000)
	l := slices.Repeat([]tlv.Item{{Type: 9}}, 1000)
	wantParse(t, "4000 bytes", whole, l, 0, api.OK)
	wantParse(t, "3999 bytes", whole[:3999], nil, 3996, api.ErrShort)
	wantParse(t, "3996 bytes", whole[:3996], l[:999], 0, api.OK)
	wantParse(t, "3997 bytes", whole[:3992]+"\x00\x09\x00\x05x", append(slices.Clone(l[:998]), tlv.Item{Type: 9, Value: "x"}), 0, api.OK)
	wantParse(t, "4000 bytes, the last item wrong", whole[:3996]+"\x00\x09\x00\x03", nil, 3996, api.ErrForm)
	wantParse(t, "4000 bytes, the last item short", whole[:3996]+"\x00\x09\x00\x05", nil, 3996, api.ErrShort)
	for _, more := range []string{"\x00", "\x00\x09\x00\x04", "x", many("\x00", 5000), whole} {
		wantParse(t, fmt.Sprintf("4000 bytes and %d", len(more)), whole+more, nil, 0, api.ErrLong)
	}
	for _, first := range []string{"\x00\x09\x00\x03", "\x00\x09\xff\xff", "\x00\x09\x05\x7d", "\x00\x09\x00\x05x\x01\x00\x00"} {
		wantParse(t, "too long a row, its first item wrong", first+whole, nil, 0, api.ErrLong)
	}
	wantParse(t, "4001 noughts", many("\x00", 4001), nil, 0, api.ErrLong)
	wantParse(t, "4000 noughts", many("\x00", 4000), nil, 0, api.ErrForm)
}

// T2: of several errors the first: short, then a length below 4, then long,
// then what stands for noughts; and of several items the first.
func TestParseFirstError(t *testing.T) {
	value := many("v", 1401)
	for _, c := range []struct {
		what, s string
		place   int
		want    api.Errno
	}{
		{"short, and long", headed(1, 1405) + value[:1400], 0, api.ErrShort},
		{"short, and a length below 4", headed(1, 3)[:3], 0, api.ErrShort},
		{"long, and no noughts", headed(1, 1405) + value + "xxx", 0, api.ErrLong},
		{"long, and a wrong item behind it", headed(1, 1405) + value + "\x00\x00\x00" + headed(1, 3), 0, api.ErrLong},
		{"a length below 4, and a short item behind it", headed(1, 3) + "\x00", 0, api.ErrForm},
		{"a length below 4, and what would be no noughts", headed(1, 1) + "\x01\x01\x01", 0, api.ErrForm},
		{"no noughts, and a length below 4 behind them", headed(1, 5) + "v\x00\x00\x01" + headed(2, 3), 0, api.ErrForm},
		{"no noughts, and a short item behind them", headed(1, 5) + "v\x00\x00\x01" + headed(2, 9), 0, api.ErrForm},
		{"a right item, a length below 4, a long item", headed(1, 5) + "v\x00\x00\x00" + headed(2, 0) + headed(3, 1405) + value, 8, api.ErrForm},
		{"a right item, a long item, a short one", headed(1, 4) + headed(3, 1405) + value + "\x00\x00\x00" + headed(4, 5), 4, api.ErrLong},
		{"two right items, no noughts", headed(1, 4) + headed(2, 7) + "abc\x00" + headed(3, 6) + "ab\x00\x01", 12, api.ErrForm},
	} {
		wantParse(t, c.what, c.s, nil, c.place, c.want)
		wantLike(t, c.what, c.s)
	}
}

// T2, TH4: any bytes, and rows with some bytes made others, cut, or with more
// behind them, against the chapter's words. What is told as items is, built,
// the row with its noughts.
func TestParseOfAnything(t *testing.T) {
	chance := rand.New(rand.NewSource(3))
	told := map[api.Errno]int{}
	for i := range 60000 {
		s := drawn(chance, chance.Intn(40))
		if i%4 > 0 {
			s = built(t, drawnItems(chance, chance.Intn(6), 9)...)
			for range chance.Intn(3) {
				if s != "" {
					s = put(s, chance.Intn(len(s)), byte(chance.Intn(1+chance.Intn(256))))
				}
			}
			s = (s + drawn(chance, 3))[:max(0, len(s)+chance.Intn(7)-3)]
		}
		if i%200 == 0 {
			s = headed(1, chance.Intn(20)+1395) + many("v", 1392+chance.Intn(30))
		}
		wantLike(t, fmt.Sprintf("%q", s), s)
		l, place, err := tlv.Parse(s)
		told[err]++
		switch {
		case err == api.OK && built(t, l...) != s+many("\x00", tlv.Pad(len(s))):
			t.Errorf("Build of what was parsed of %q: %q", s, built(t, l...))
		case err != api.OK && (place%4 != 0 || place >= len(s)):
			t.Errorf("%q: an item at %d is wrong", s, place)
		}
	}
	for _, err := range []api.Errno{api.OK, api.ErrShort, api.ErrForm, api.ErrLong} {
		if told[err] < 50 {
			t.Errorf("error %d was told %d times", err, told[err])
		}
	}
}

// T2: a Value is told as it is, whatever bytes it has.
func TestParseOfEachByte(t *testing.T) {
	for b := range 256 {
		for length := range 9 {
			l := []tlv.Item{{Type: b, Value: many(string([]byte{byte(b)}), length)}, {Type: 256 * b, Value: "end"}}
			wantParse(t, fmt.Sprintf("%d times byte %d", length, b), built(t, l...), l, 0, api.OK)
		}
	}
}

// T3: the first Value of a Type; false, and nothing, if there is none.
func TestFind(t *testing.T) {
	l := []tlv.Item{{Type: 1, Value: "a"}, {Type: 2, Value: "b"}, {Type: 1, Value: "c"}, {Type: 3}, {Type: 3, Value: "d"}, {Type: 0, Value: "nought"}, {Type: 65535, Value: "last"}, {Type: -1, Value: "below"}, {Type: 65536, Value: "above"}, {Type: most, Value: "most"}}
	for _, c := range []struct {
		kind int
		want string
		is   bool
	}{
		{1, "a", true}, {2, "b", true}, {3, "", true}, {0, "nought", true}, {65535, "last", true}, {-1, "below", true}, {65536, "above", true}, {most, "most", true},
		{4, "", false}, {257, "", false}, {65537, "", false}, {-2, "", false}, {-65535, "", false}, {1<<32 + 1, "", false}, {least, "", false},
	} {
		if got, is := tlv.Find(l, c.kind); got != c.want || is != c.is {
			t.Errorf("Find of Type %d: %q, %v, want %q, %v", c.kind, got, is, c.want, c.is)
		}
	}
	for _, kind := range []int{0, 1, -1, most} {
		if got, is := tlv.Find(nil, kind); got != "" || is {
			t.Errorf("Find of Type %d in nothing: %q, %v", kind, got, is)
		}
		if got, is := tlv.Find([]tlv.Item{}, kind); got != "" || is {
			t.Errorf("Find of Type %d in no items: %q, %v", kind, got, is)
		}
	}
}

// T3: the first one, in lists of all kinds.
func TestFindTheFirst(t *testing.T) {
	chance := rand.New(rand.NewSource(4))
	for range 5000 {
		l := drawnItems(chance, chance.Intn(12), 3)
		for i := range l {
			l[i].Type %= 7
		}
		for kind := range 8 {
			want, is := "", false
			for i := len(l) - 1; i >= 0; i-- {
				if l[i].Type == kind {
					want, is = l[i].Value, true
				}
			}
			if got, found := tlv.Find(l, kind); got != want || found != is {
				t.Errorf("Find of Type %d in %q: %q, %v", kind, fmt.Sprint(l), got, found)
			}
		}
	}
}

// T3: each Type of 16 bits, and others, in whose bits there is nothing to ask.
func TestAct(t *testing.T) {
	for kind := range 65536 {
		pass, tell := tlv.Act(kind)
		if pass != (kind >= 32768) || tell != (kind%32768 >= 16384) {
			t.Errorf("Act(%d) = %v, %v", kind, pass, tell)
		}
	}
	for _, kind := range []int{-1, -2, -16384, -32768, -49152, -65536, least, least + 65535, 65536, 65537, 65536 + 16384, 65536 + 32768, 65536 + 49152, 131071, 131072, 1<<32 - 1, 1<<32 + 49152, most, most - 1} {
		if pass, tell := tlv.Act(kind); pass || tell {
			t.Errorf("Act(%d) = %v, %v", kind, pass, tell)
		}
	}
	for _, c := range []struct {
		kind       int
		pass, tell bool
	}{{api.Preserve, false, false}, {api.Cookie, false, false}, {0x8000, true, false}, {0x4000, false, true}, {0xc000, true, true}, {0x8008, true, false}, {0xc006, true, true}} {
		if pass, tell := tlv.Act(c.kind); pass != c.pass || tell != c.tell {
			t.Errorf("Act(%#x) = %v, %v", c.kind, pass, tell)
		}
	}
}

// P1: long texts, long lists and any numbers end too, and are told as what
// they are.
func TestLongOnes(t *testing.T) {
	long := many("\x00\x01\x00\x04", 1<<21)
	wantParse(t, "a long text", long, nil, 0, api.ErrLong)
	wantBuild(t, "a long Value", []tlv.Item{{Value: long}}, "", api.ErrLong)
	l := slices.Repeat([]tlv.Item{{Type: 1, Value: long[:1400]}}, 1<<20)
	wantBuild(t, "a long list", l, "", api.ErrLong)
	l[len(l)-1].Type = -1
	wantBuild(t, "a long list, its last Type wrong", l, "", api.ErrArg)
	if got, is := tlv.Find(l, -1); got != long[:1400] || !is {
		t.Error("the last one of a long list isn't found")
	}
	if got, is := tlv.Find([]tlv.Item{{Value: long}}, 0); got != long || !is {
		t.Error("a long Value isn't found")
	}
}

// P3: nothing that is handed in is written into, nor what lies behind it.
func TestHandedInStaysAsItIs(t *testing.T) {
	all := []tlv.Item{{Type: 3, Value: "c"}, {Type: 1, Value: "a"}, {Type: 2, Value: "b"}, {Type: 70000, Value: "behind"}}
	kept := slices.Clone(all)
	wantBuild(t, "three of four", all[:3], "\x00\x03\x00\x05c\x00\x00\x00\x00\x01\x00\x05a\x00\x00\x00\x00\x02\x00\x05b\x00\x00\x00", api.OK)
	if got, is := tlv.Find(all[:3], 70000); is {
		t.Errorf("what lies behind a list is found: %q", got)
	}
	if !slices.Equal(all, kept) {
		t.Errorf("the list is another one now: %v", all)
	}
}

// P3: what is answered lies in no memory that was handed in, and each answer
// in its own.
func TestAnswersAreNew(t *testing.T) {
	inside := func(s, d string) bool {
		at, from := uintptr(unsafe.Pointer(unsafe.StringData(s))), uintptr(unsafe.Pointer(unsafe.StringData(d)))
		return at >= from && at < from+uintptr(len(d))
	}
	value := many("a value", 9)
	row := built(t, tlv.Item{Type: 1, Value: value}, tlv.Item{Type: 2, Value: value})
	l, _, _ := tlv.Parse(row)
	again, _, _ := tlv.Parse(row)
	found, _ := tlv.Find(l, 1)
	if inside(row, value) || inside(l[0].Value, row) || inside(l[1].Value, row) || inside(found, l[0].Value) {
		t.Error("an answer lies in what was handed in")
	}
	l[0] = tlv.Item{Type: 9, Value: "another one"}
	if again[0].Value != value || found != value {
		t.Error("an answer hangs on another one")
	}
	wantParse(t, "a row that was parsed before", row, again, 0, api.OK)
}

// P4: what is answered hangs on nothing that is asked before, or at one time.
func TestAskedTogether(t *testing.T) {
	var asked sync.WaitGroup
	for from := range 8 {
		asked.Go(func() {
			chance := rand.New(rand.NewSource(int64(from)))
			for range 2000 {
				l := drawnItems(chance, 1+chance.Intn(5), 9)
				row, err := tlv.Build(l)
				want, _ := builtByTheWords(l)
				got, place, errParse := tlv.Parse(row)
				_, placeWrong, errWrong := tlv.Parse(row + "\x00")
				if err != api.OK || row != want || !slices.Equal(got, l) || place != 0 || errParse != api.OK || placeWrong != len(row) || errWrong != api.ErrShort {
					t.Errorf("asked together: %q: %q, %d, %d", fmt.Sprint(l), row, err, errParse)
				}
			}
		})
	}
	asked.Wait()
}
