package chunk_test

import (
	"encoding/binary"
	"fmt"
	"math"
	"math/rand"
	"reflect"
	"slices"
	"strings"
	"sync"
	"testing"
	"unsafe"

	"towline/api"
	"towline/chunk"
	"towline/tlv"
)

// own is what a chunk of a Type has beside Type and Flags, by the chapter's
// table.
func own(kind int) string {
	switch kind {
	case 0:
		return "Tsn Stream Ssn Ppid Text"
	case 1, 2:
		return "Tag Window Outs Ins Tsn Items"
	case 3:
		return "Tsn Window Gaps Dups"
	case 4, 5, 6, 9:
		return "Items"
	case 7:
		return "Tsn"
	case 8, 11, 14:
		return ""
	}
	return "Text"
}

// flagsOf is the highest number that Flags may be, by the chapter's table.
func flagsOf(kind int) int {
	switch kind {
	case 0:
		return 7
	case 6, 14:
		return 1
	case 1, 2, 3, 4, 5, 7, 8, 9, 10, 11:
		return 0
	}
	return 255
}

// filled names the fields of a chunk, but Type and Flags, in which something is.
func filled(c chunk.Chunk) []string {
	var l []string
	v := reflect.ValueOf(c)
	for i := range v.NumField() {
		name, f := v.Type().Field(i).Name, v.Field(i)
		if name == "Type" || name == "Flags" || f.IsZero() || f.Kind() == reflect.Slice && f.Len() == 0 {
			continue
		}
		l = append(l, name)
	}
	return l
}

// itemsByTheWords are the bytes of items, without the noughts behind the last
// one; false, if tlv does not take them.
func itemsByTheWords(l []tlv.Item) (string, bool) {
	row, last := []byte{}, 0
	for _, item := range l {
		if item.Type < 0 || item.Type > 65535 || len(item.Value) > 1400 {
			return "", false
		}
		row = binary.BigEndian.AppendUint16(row, uint16(item.Type))
		row = binary.BigEndian.AppendUint16(row, uint16(4+len(item.Value)))
		row = append(row, item.Value...)
		last = len(row)
		for len(row)%4 != 0 {
			row = append(row, 0)
		}
	}
	if len(row) > 4000 {
		return "", false
	}
	return string(row[:last]), true
}

// rightByTheWords: is a chunk right by the chapter's words, but for its length?
func rightByTheWords(c chunk.Chunk) bool {
	if c.Type < 0 || c.Type > 255 || c.Flags < 0 || c.Flags > flagsOf(c.Type) {
		return false
	}
	for _, name := range filled(c) {
		if !slices.Contains(strings.Fields(own(c.Type)), name) {
			return false
		}
	}
	if _, ok := itemsByTheWords(c.Items); !ok || len(c.Text) > 1000 {
		return false
	}
	switch c.Type {
	case api.Data, api.CookieEcho:
		return len(c.Text) > 0
	case api.Init, api.InitAck:
		return c.Tag > 0 && c.Outs > 0 && c.Ins > 0
	case api.Heartbeat, api.HeartAck:
		return len(c.Items) == 1 && c.Items[0].Type == api.HeartInfo
	case api.Error:
		return len(c.Items) > 0
	case api.Sack:
		if len(c.Gaps) > 100 || len(c.Dups) > 100 {
			return false
		}
		for i, gap := range c.Gaps {
			if gap[0] == 0 || gap[1] < gap[0] || i > 0 && int(gap[0])-int(c.Gaps[i-1][1]) < 2 {
				return false
			}
		}
	}
	return true
}

// builtByTheWords is what the chapter's words make of a chunk.
func builtByTheWords(c chunk.Chunk) (string, api.Errno) {
	if !rightByTheWords(c) {
		return "", api.ErrArg
	}
	order := binary.BigEndian
	s := []byte{byte(c.Type), byte(c.Flags), 0, 0}
	switch c.Type {
	case api.Data:
		s = order.AppendUint32(s, c.Tsn)
		s = order.AppendUint16(s, c.Stream)
		s = order.AppendUint16(s, c.Ssn)
		s = order.AppendUint32(s, c.Ppid)
	case api.Init, api.InitAck:
		s = order.AppendUint32(s, c.Tag)
		s = order.AppendUint32(s, c.Window)
		s = order.AppendUint16(s, c.Outs)
		s = order.AppendUint16(s, c.Ins)
		s = order.AppendUint32(s, c.Tsn)
	case api.Sack:
		s = order.AppendUint32(s, c.Tsn)
		s = order.AppendUint32(s, c.Window)
		s = order.AppendUint16(s, uint16(len(c.Gaps)))
		s = order.AppendUint16(s, uint16(len(c.Dups)))
		for _, gap := range c.Gaps {
			s = order.AppendUint16(order.AppendUint16(s, gap[0]), gap[1])
		}
		for _, dup := range c.Dups {
			s = order.AppendUint32(s, dup)
		}
	case api.Shutdown:
		s = order.AppendUint32(s, c.Tsn)
	}
	row, _ := itemsByTheWords(c.Items)
	s = append(append(s, row...), c.Text...)
	order.PutUint16(s[2:], uint16(len(s)))
	for len(s)%4 != 0 {
		s = append(s, 0)
	}
	if len(s) > 1400 {
		return "", api.ErrLong
	}
	return string(s), api.OK
}

// itemsOf reads a row of items by the words of chapter 6.
func itemsOf(s string) ([]tlv.Item, bool) {
	var l []tlv.Item
	for len(s) > 0 {
		if len(s) < 4 {
			return nil, false
		}
		length := int(s[2])<<8 + int(s[3])
		if length < 4 || length > len(s) || length-4 > 1400 {
			return nil, false
		}
		l = append(l, tlv.Item{Type: int(s[0])<<8 + int(s[1]), Value: s[4:length]})
		for ; length%4 != 0 && length < len(s); length++ {
			if s[length] != 0 {
				return nil, false
			}
		}
		s = s[length:]
	}
	return l, true
}

// parsedByTheWords is what the chapter's words tell of bytes: value by value,
// from places that are counted out for each Type.
func parsedByTheWords(s string) (chunk.Chunk, int, api.Errno) {
	none, order := chunk.Chunk{}, binary.BigEndian
	if len(s) < 4 {
		return none, 0, api.ErrShort
	}
	length := int(s[2])<<8 + int(s[3])
	if len(s) < length {
		return none, 0, api.ErrShort
	}
	if length < 4 {
		return none, 0, api.ErrForm
	}
	if length > 1400 {
		return none, 0, api.ErrLong
	}
	c, v, ok := chunk.Chunk{Type: int(s[0]), Flags: int(s[1])}, []byte(s[4:length]), true
	fixed := map[int]int{0: 12, 1: 16, 2: 16, 3: 12, 7: 4}[c.Type]
	if len(v) < fixed {
		return none, 0, api.ErrForm
	}
	rest := v[fixed:]
	switch c.Type {
	case api.Data:
		c.Tsn, c.Stream, c.Ssn, c.Ppid, c.Text = order.Uint32(v), order.Uint16(v[4:]), order.Uint16(v[6:]), order.Uint32(v[8:]), string(rest)
	case api.Init, api.InitAck:
		c.Tag, c.Window, c.Outs, c.Ins, c.Tsn = order.Uint32(v), order.Uint32(v[4:]), order.Uint16(v[8:]), order.Uint16(v[10:]), order.Uint32(v[12:])
		c.Items, ok = itemsOf(string(rest))
	case api.Sack:
		c.Tsn, c.Window = order.Uint32(v), order.Uint32(v[4:])
		gaps, dups := int(order.Uint16(v[8:])), int(order.Uint16(v[10:]))
		if len(rest) != 4*gaps+4*dups {
			return none, 0, api.ErrForm
		}
		for i := range gaps {
			c.Gaps = append(c.Gaps, [2]uint16{order.Uint16(rest[4*i:]), order.Uint16(rest[4*i+2:])})
		}
		for i := range dups {
			c.Dups = append(c.Dups, order.Uint32(rest[4*gaps+4*i:]))
		}
	case api.Heartbeat, api.HeartAck, api.Abort, api.Error:
		c.Items, ok = itemsOf(string(rest))
	case api.Shutdown:
		c.Tsn, ok = order.Uint32(v), len(rest) == 0
	case api.ShutdownAck, api.CookieAck, api.Complete:
		ok = len(rest) == 0
	default:
		c.Text = string(rest)
	}
	if !ok || !rightByTheWords(c) {
		return none, 0, api.ErrForm
	}
	for ; length%4 != 0 && length < len(s); length++ {
		if s[length] != 0 {
			return none, 0, api.ErrForm
		}
	}
	return c, length, api.OK
}

// same: are two chunks one, where a list of nothing may be nil or empty?
func same(a, b chunk.Chunk) bool {
	lists := slices.Equal(a.Gaps, b.Gaps) && slices.Equal(a.Dups, b.Dups) && slices.Equal(a.Items, b.Items)
	a.Gaps, a.Dups, a.Items, b.Gaps, b.Dups, b.Items = nil, nil, nil, nil, nil, nil
	return lists && reflect.DeepEqual(a, b)
}

func text(c chunk.Chunk) string { return fmt.Sprintf("%.200s", fmt.Sprintf("%+q", fmt.Sprint(c))) }

func many(b string, times int) string { return strings.Repeat(b, times) }

// put is s with these bytes at a place.
func put(s string, place int, bytes ...byte) string {
	return s[:place] + string(bytes) + s[place+len(bytes):]
}

// headed is a head that says this Type, these Flags and this length.
func headed(kind, flags, length int) string {
	return string([]byte{byte(kind), byte(flags), byte(length >> 8), byte(length)})
}

// wantBuild holds what is built against bytes and an error, with P2, and what
// Size and Right tell against both.
func wantBuild(t *testing.T, what string, c chunk.Chunk, want string, wantErr api.Errno) {
	t.Helper()
	if s, err := chunk.Build(c); s != want || err != wantErr {
		t.Errorf("%s: Build told %.99q (%d bytes), %d, want %.99q (%d bytes), %d", what, s, len(s), err, want, len(want), wantErr)
	}
	if n := chunk.Size(c); n != len(want) {
		t.Errorf("%s: Size told %d, want %d", what, n, len(want))
	}
	if is := chunk.Right(c); is != (wantErr == api.OK) {
		t.Errorf("%s: Right told %v, where Build is to tell %d", what, is, wantErr)
	}
}

// wantBuiltLike holds what is built against the chapter's words, and tells
// what these make of it.
func wantBuiltLike(t *testing.T, what string, c chunk.Chunk) api.Errno {
	t.Helper()
	want, err := builtByTheWords(c)
	wantBuild(t, what, c, want, err)
	return err
}

// wantParse holds what is parsed against a chunk, how many bytes it has, and
// an error, with P2.
func wantParse(t *testing.T, what, s string, want chunk.Chunk, wantSize int, wantErr api.Errno) {
	t.Helper()
	c, size, err := chunk.Parse(s)
	if !same(c, want) || size != wantSize || err != wantErr {
		t.Errorf("%s: Parse told %s, %d, %d, want %s, %d, %d", what, text(c), size, err, text(want), wantSize, wantErr)
	}
}

// wantLike holds what is parsed of s against the chapter's words, and tells
// what these make of it.
func wantLike(t *testing.T, what, s string) api.Errno {
	t.Helper()
	want, size, err := parsedByTheWords(s)
	wantParse(t, what, s, want, size, err)
	return err
}

func built(t *testing.T, c chunk.Chunk) string {
	t.Helper()
	s, err := chunk.Build(c)
	if err != api.OK {
		t.Fatalf("Build of %s: %d", text(c), err)
	}
	return s
}

// right is a right chunk of a Type, with something in all that it may have.
func right(kind int) chunk.Chunk {
	c := chunk.Chunk{Type: kind, Flags: flagsOf(kind)}
	switch kind {
	case api.Data:
		c.Tsn, c.Stream, c.Ssn, c.Ppid, c.Text = 0x01020304, 0x0506, 0x0708, 0x090a0b0c, "piece"
	case api.Init, api.InitAck:
		c.Tag, c.Window, c.Outs, c.Ins, c.Tsn = 0x11121314, 0x15161718, 0x191a, 0x1b1c, 0x1d1e1f20
		c.Items = []tlv.Item{{Type: 7, Value: "cookie"}, {Type: 0x8008, Value: "x"}, {Type: 5, Value: "\x0a\x00\x00\x01"}, {Type: 9, Value: "abc"}}
	case api.Sack:
		c.Tsn, c.Window = 0x21222324, 0x25262728
		c.Gaps, c.Dups = [][2]uint16{{2, 3}, {0x1112, 0x2122}, {0x3132, 0x3132}}, []uint32{0x51525354, 7}
	case api.Heartbeat, api.HeartAck:
		c.Items = []tlv.Item{{Type: 1, Value: "nonce"}}
	case api.Abort, api.Error:
		c.Items = []tlv.Item{{Type: 3}, {Type: 0xff01, Value: "why"}, {Type: 4, Value: "ab"}}
	case api.Shutdown:
		c.Tsn = 0x31323334
	case api.ShutdownAck, api.CookieAck, api.Complete:
	default:
		c.Text = "a text"
	}
	return c
}

// kinds are the Types that the chapter names, and some others.
func kinds() []int {
	return []int{0, 1, 2, 3, 4, 5, 6, 7, 8, 9, 10, 11, 14, 12, 13, 15, 99, 128, 192, 255}
}

// K1: chunks, written out; the chapter's first.
func TestBuildWrittenOut(t *testing.T) {
	for _, c := range []struct {
		c    chunk.Chunk
		want string
	}{
		{chunk.Chunk{Type: api.Shutdown, Tsn: 5}, "\x07\x00\x00\x08\x00\x00\x00\x05"},
		{chunk.Chunk{Tsn: 1, Flags: 3, Text: "x"}, "\x00\x03\x00\x11\x00\x00\x00\x01\x00\x00\x00\x00\x00\x00\x00\x00x\x00\x00\x00"},
		{chunk.Chunk{Type: api.CookieAck}, "\x0b\x00\x00\x04"},
		{chunk.Chunk{Tsn: 0x01020304, Stream: 0x0506, Ssn: 0x0708, Ppid: 0x090a0b0c, Text: "abcd"}, "\x00\x00\x00\x14\x01\x02\x03\x04\x05\x06\x07\x08\x09\x0a\x0b\x0cabcd"},
		{chunk.Chunk{Flags: chunk.Unordered, Tsn: 0xffffffff, Stream: 0xffff, Ssn: 0xffff, Ppid: 0xffffffff, Text: "\x00\x00"}, "\x00\x04\x00\x12" + many("\xff", 12) + "\x00\x00\x00\x00"},
		{chunk.Chunk{Type: api.Init, Tag: 0x11121314, Window: 0x15161718, Outs: 0x191a, Ins: 0x1b1c, Tsn: 0x1d1e1f20}, "\x01\x00\x00\x14\x11\x12\x13\x14\x15\x16\x17\x18\x19\x1a\x1b\x1c\x1d\x1e\x1f\x20"},
		{chunk.Chunk{Type: api.InitAck, Tag: 1, Outs: 256, Ins: 65535, Items: []tlv.Item{{Type: 9, Value: "a"}, {Type: 7, Value: "ck"}}}, "\x02\x00\x00\x22\x00\x00\x00\x01\x00\x00\x00\x00\x01\x00\xff\xff\x00\x00\x00\x00\x00\x09\x00\x05a\x00\x00\x00\x00\x07\x00\x06ck\x00\x00"},
		{chunk.Chunk{Type: api.Sack, Tsn: 0x01020304, Window: 0x05060708}, "\x03\x00\x00\x10\x01\x02\x03\x04\x05\x06\x07\x08\x00\x00\x00\x00"},
		{chunk.Chunk{Type: api.Sack, Gaps: [][2]uint16{{0x0102, 0x0304}, {0x0306, 0xffff}}, Dups: []uint32{0x05060708}}, "\x03\x00\x00\x1c\x00\x00\x00\x00\x00\x00\x00\x00\x00\x02\x00\x01\x01\x02\x03\x04\x03\x06\xff\xff\x05\x06\x07\x08"},
		{chunk.Chunk{Type: api.Heartbeat, Items: []tlv.Item{{Type: 1, Value: "nonce"}}}, "\x04\x00\x00\x0d\x00\x01\x00\x09nonce\x00\x00\x00"},
		{chunk.Chunk{Type: api.HeartAck, Items: []tlv.Item{{Type: 1}}}, "\x05\x00\x00\x08\x00\x01\x00\x04"},
		{chunk.Chunk{Type: api.Abort}, "\x06\x00\x00\x04"},
		{chunk.Chunk{Type: api.Abort, Flags: chunk.NoTag, Items: []tlv.Item{{Type: 65535, Value: "why"}}}, "\x06\x01\x00\x0b\xff\xff\x00\x07why\x00"},
		{chunk.Chunk{Type: api.ShutdownAck}, "\x08\x00\x00\x04"},
		{chunk.Chunk{Type: api.Error, Items: []tlv.Item{{Type: 3, Value: "\x00"}}}, "\x09\x00\x00\x09\x00\x03\x00\x05\x00\x00\x00\x00"},
		{chunk.Chunk{Type: api.CookieEcho, Text: "\x00"}, "\x0a\x00\x00\x05\x00\x00\x00\x00"},
		{chunk.Chunk{Type: api.Complete}, "\x0e\x00\x00\x04"},
		{chunk.Chunk{Type: api.Complete, Flags: chunk.NoTag}, "\x0e\x01\x00\x04"},
		{chunk.Chunk{Type: 12}, "\x0c\x00\x00\x04"},
		{chunk.Chunk{Type: 255, Flags: 254, Text: "abc"}, "\xff\xfe\x00\x07abc\x00"},
		{chunk.Chunk{Flags: 1, Text: many("p", 1000)}, "\x00\x01\x03\xf8" + many("\x00", 12) + many("p", 1000)},
		{chunk.Chunk{Type: api.CookieEcho, Text: many("c", 999)}, "\x0a\x00\x03\xeb" + many("c", 999) + "\x00"},
	} {
		wantBuild(t, text(c.c), c.c, c.want, api.OK)
		wantParse(t, text(c.c), c.want, c.c, len(c.want), api.OK)
		wantBuiltLike(t, text(c.c), c.c)
	}
}

// K1: the flags that the chapter names.
func TestFlagsByName(t *testing.T) {
	if chunk.Unordered != 4 || chunk.Begin != 2 || chunk.End != 1 || chunk.NoTag != 1 {
		t.Error("a flag is another one")
	}
}

// K1: each Type, with the Flags that it may have, and with others.
func TestFlagsOfEachType(t *testing.T) {
	for kind := range 256 {
		c := right(kind)
		for _, flags := range []int{-256, -255, -2, -1, 256, 257, 511, 512, 1 << 16, 1 << 32, -1 << 32, math.MaxInt, math.MinInt} {
			c.Flags = flags
			wantBuild(t, fmt.Sprintf("Type %d, Flags %d", kind, flags), c, "", api.ErrArg)
		}
		for flags := range 256 {
			c.Flags = flags
			want := api.OK
			if flags > flagsOf(kind) {
				want = api.ErrArg
			}
			if err := wantBuiltLike(t, fmt.Sprintf("Type %d, Flags %d", kind, flags), c); err != want {
				t.Errorf("Type %d, Flags %d: the words make %d of it", kind, flags, err)
			}
		}
	}
}

// K1: a Type is 0 to 255.
func TestTypesThatAreNone(t *testing.T) {
	for _, kind := range []int{-1, -2, -245, -248, -255, -256, 256, 257, 258, 267, 270, 65536, 1 << 32, 1<<32 + 11, -1 << 32, math.MaxInt, math.MinInt} {
		for _, c := range []chunk.Chunk{{Type: kind}, {Type: kind, Text: "x"}, {Type: kind, Flags: 1}, {Type: kind, Tsn: 1}, {Type: kind, Items: []tlv.Item{{Type: 1}}}, {Type: kind, Text: many("x", 2000)}} {
			wantBuild(t, text(c), c, "", api.ErrArg)
		}
	}
}

// K1: a chunk has nothing but what its Type has; a list of nothing is nothing.
func TestWhatATypeHas(t *testing.T) {
	all := chunk.Chunk{Tsn: 1, Tag: 1, Window: 1, Ppid: 1, Stream: 1, Ssn: 1, Outs: 1, Ins: 1, Gaps: [][2]uint16{{1, 1}}, Dups: []uint32{0}, Items: []tlv.Item{{Type: 1}}, Text: "x"}
	least := chunk.Chunk{Gaps: [][2]uint16{}, Dups: []uint32{}, Items: []tlv.Item{}}
	for _, kind := range kinds() {
		mine := strings.Fields(own(kind))
		for _, name := range filled(all) {
			c := right(kind)
			from := reflect.ValueOf(all)
			into := reflect.ValueOf(&c).Elem()
			into.FieldByName(name).Set(from.FieldByName(name))
			want := api.OK
			if !slices.Contains(mine, name) {
				want = api.ErrArg
			}
			if err := wantBuiltLike(t, text(c), c); err != want {
				t.Errorf("Type %d with %s: the words make %d of it", kind, name, err)
			}
			if into.FieldByName(name).Kind() == reflect.Slice && want == api.ErrArg {
				into.FieldByName(name).Set(reflect.ValueOf(least).FieldByName(name))
				wantBuild(t, fmt.Sprintf("Type %d with %s of nothing", kind, name), c, built(t, right(kind)), api.OK)
			}
		}
		bits := right(kind)
		for _, name := range filled(all) {
			f := reflect.ValueOf(&bits).Elem().FieldByName(name)
			for bit := uint64(1); f.CanUint() && bit != 0 && !f.OverflowUint(bit); bit *= 2 {
				old := f.Uint()
				f.SetUint(bit)
				wantBuiltLike(t, fmt.Sprintf("Type %d with %s %d", kind, name, bit), bits)
				f.SetUint(0)
				wantBuiltLike(t, fmt.Sprintf("Type %d with %s 0", kind, name), bits)
				f.SetUint(old)
			}
		}
	}
}

// K1: two things that a Type does not have are no more right than one, also
// where they are the same number.
func TestTwoThingsOfOtherTypes(t *testing.T) {
	names := []string{"Tsn", "Tag", "Window", "Ppid", "Stream", "Ssn", "Outs", "Ins"}
	for _, kind := range kinds() {
		for _, first := range names {
			for _, second := range names {
				for _, number := range []uint64{1, 0x8000, 0xffff} {
					c := right(kind)
					reflect.ValueOf(&c).Elem().FieldByName(first).SetUint(number)
					reflect.ValueOf(&c).Elem().FieldByName(second).SetUint(number)
					want := api.OK
					if mine := strings.Fields(own(kind)); !slices.Contains(mine, first) || !slices.Contains(mine, second) {
						want = api.ErrArg
					}
					if err := wantBuiltLike(t, text(c), c); err != want {
						t.Errorf("Type %d with %s and %s: the words make %d of it", kind, first, second, err)
					}
				}
			}
		}
	}
}

// K1: of an Init or InitAck Tag, Outs and Ins are not 0; all else may be.
func TestInitsWithNoughts(t *testing.T) {
	for _, kind := range []int{api.Init, api.InitAck} {
		for bits := range 64 {
			c, want := chunk.Chunk{Type: kind, Tag: 1 << 31, Window: 1, Outs: 1 << 15, Ins: 1, Tsn: 1, Items: right(kind).Items}, api.OK
			for i, clear := range []func(){func() { c.Tag = 0 }, func() { c.Outs = 0 }, func() { c.Ins = 0 }, func() { c.Window = 0 }, func() { c.Tsn = 0 }, func() { c.Items = nil }} {
				if bits>>i&1 == 1 {
					clear()
				}
			}
			if bits&7 != 0 {
				want = api.ErrArg
			}
			if err := wantBuiltLike(t, text(c), c); err != want {
				t.Errorf("%s: the words make %d of it", text(c), err)
			}
		}
	}
}

// K1: Texts of each length, of those Types that have one, and of the others.
func TestBuildOfEachText(t *testing.T) {
	for _, kind := range kinds() {
		c, least, most := right(kind), 0, 1000
		switch {
		case kind == api.Data, kind == api.CookieEcho:
			least = 1
		case !strings.Contains(own(kind), "Text"):
			most = 0
		}
		lengths := []int{1384, 1385, 1396, 1397, 1400, 1401, 4000, 65535, 65536, 65537, 1 << 20}
		for length := range 1010 {
			lengths = append(lengths, length)
		}
		for _, length := range lengths {
			c.Text = many("t", length)
			want := api.OK
			if length < least || length > most {
				want = api.ErrArg
			}
			if err := wantBuiltLike(t, fmt.Sprintf("Type %d, a Text of %d bytes", kind, length), c); err != want {
				t.Errorf("Type %d, a Text of %d bytes: the words make %d of it", kind, length, err)
			}
		}
	}
}

// K1: Gaps that rise, with a number at least between them, and others.
func TestGaps(t *testing.T) {
	for _, c := range []struct {
		gaps [][2]uint16
		want api.Errno
	}{
		{[][2]uint16{}, api.OK}, {[][2]uint16{{1, 1}}, api.OK}, {[][2]uint16{{1, 2}}, api.OK}, {[][2]uint16{{1, 65535}}, api.OK}, {[][2]uint16{{65535, 65535}}, api.OK},
		{[][2]uint16{{0, 0}}, api.ErrArg}, {[][2]uint16{{0, 1}}, api.ErrArg}, {[][2]uint16{{2, 1}}, api.ErrArg}, {[][2]uint16{{1, 0}}, api.ErrArg}, {[][2]uint16{{65535, 65534}}, api.ErrArg}, {[][2]uint16{{65535, 0}}, api.ErrArg}, {[][2]uint16{{256, 1}}, api.ErrArg},
		{[][2]uint16{{1, 1}, {3, 3}}, api.OK}, {[][2]uint16{{1, 1}, {2, 2}}, api.ErrArg}, {[][2]uint16{{1, 1}, {1, 1}}, api.ErrArg}, {[][2]uint16{{3, 3}, {1, 1}}, api.ErrArg}, {[][2]uint16{{1, 5}, {3, 8}}, api.ErrArg}, {[][2]uint16{{1, 5}, {7, 6}}, api.ErrArg}, {[][2]uint16{{1, 5}, {7, 7}}, api.OK}, {[][2]uint16{{1, 5}, {6, 7}}, api.ErrArg}, {[][2]uint16{{1, 5}, {0, 7}}, api.ErrArg},
		{[][2]uint16{{1, 65533}, {65535, 65535}}, api.OK}, {[][2]uint16{{1, 65534}, {65535, 65535}}, api.ErrArg}, {[][2]uint16{{1, 65534}, {0, 0}}, api.ErrArg}, {[][2]uint16{{1, 65534}, {1, 2}}, api.ErrArg}, {[][2]uint16{{1, 65535}, {1, 1}}, api.ErrArg}, {[][2]uint16{{1, 65535}, {2, 3}}, api.ErrArg}, {[][2]uint16{{1, 65535}, {0, 0}}, api.ErrArg}, {[][2]uint16{{65535, 65535}, {65535, 65535}}, api.ErrArg},
		{[][2]uint16{{1, 1}, {3, 3}, {5, 5}}, api.OK}, {[][2]uint16{{1, 1}, {3, 3}, {4, 5}}, api.ErrArg}, {[][2]uint16{{1, 1}, {5, 5}, {3, 3}}, api.ErrArg}, {[][2]uint16{{1, 1}, {2, 3}, {5, 5}}, api.ErrArg}, {[][2]uint16{{0, 1}, {3, 3}, {5, 5}}, api.ErrArg}, {[][2]uint16{{1, 1}, {4, 3}, {6, 6}}, api.ErrArg}, {[][2]uint16{{1, 1}, {3, 3}, {6, 5}}, api.ErrArg},
	} {
		sack := chunk.Chunk{Type: api.Sack, Tsn: 4294967295, Gaps: c.gaps}
		if err := wantBuiltLike(t, fmt.Sprint(c.gaps), sack); err != c.want {
			t.Errorf("Gaps %v: the words make %d of them", c.gaps, err)
		}
		s := "\x03\x00" + string([]byte{0, byte(16 + 4*len(c.gaps))}) + "\xff\xff\xff\xff\x00\x00\x00\x00\x00" + string([]byte{byte(len(c.gaps))}) + "\x00\x00"
		for _, gap := range c.gaps {
			s += string([]byte{byte(gap[0] >> 8), byte(gap[0]), byte(gap[1] >> 8), byte(gap[1])})
		}
		if c.want == api.OK {
			wantParse(t, fmt.Sprint(c.gaps), s, sack, len(s), api.OK)
		} else {
			wantParse(t, fmt.Sprint(c.gaps), s, chunk.Chunk{}, 0, api.ErrForm)
		}
	}
}

// gapsOf are as many Gaps as are asked for, as near to one another as may be.
func gapsOf(times int) [][2]uint16 {
	var l [][2]uint16
	for i := range times {
		l = append(l, [2]uint16{uint16(1 + 2*i), uint16(1 + 2*i)})
	}
	return l
}

// K1, K2: Gaps and Dups are at most 100 each; Dups may be any numbers.
func TestHowManyGapsAndDups(t *testing.T) {
	numbers := []int{0, 1, 2, 50, 99, 100, 101, 102, 200, 250, 256, 330, 400, 1000, 16000}
	for _, gaps := range numbers {
		for _, dups := range numbers {
			c := chunk.Chunk{Type: api.Sack, Tsn: 1, Window: 2, Gaps: gapsOf(gaps), Dups: make([]uint32, dups)}
			want := api.OK
			if gaps > 100 || dups > 100 {
				want = api.ErrArg
			}
			what := fmt.Sprintf("%d Gaps, %d Dups", gaps, dups)
			if err := wantBuiltLike(t, what, c); err != want {
				t.Errorf("%s: the words make %d of them", what, err)
			}
			s := []byte(headed(api.Sack, 0, 16+4*gaps+4*dups) + "\x00\x00\x00\x01\x00\x00\x00\x02")
			s = binary.BigEndian.AppendUint16(binary.BigEndian.AppendUint16(s, uint16(gaps)), uint16(dups))
			for _, gap := range c.Gaps {
				s = append(s, byte(gap[0]>>8), byte(gap[0]), byte(gap[1]>>8), byte(gap[1]))
			}
			s = append(s, make([]byte, 4*dups)...)
			if len(s) > 1400 {
				continue
			}
			if want == api.OK {
				wantParse(t, what, string(s), c, len(s), api.OK)
			} else {
				wantParse(t, what, string(s), chunk.Chunk{}, 0, api.ErrForm)
			}
			for said := range 256 {
				wantLike(t, fmt.Sprintf("%s, %d Gaps said", what, said), put(string(s), 13, byte(said)))
				wantLike(t, fmt.Sprintf("%s, %d Dups said", what, said), put(string(s), 15, byte(said)))
				wantLike(t, fmt.Sprintf("%s, %d of each said", what, said), put(string(s), 13, byte(said), 0, byte(said)))
			}
		}
	}
	dups := []uint32{0, 4294967295, 5, 5, 4, 1 << 31, 0}
	wantBuiltLike(t, "Dups of all kinds", chunk.Chunk{Type: api.Sack, Dups: dups})
}

// K2: what a Sack says of its Gaps and Dups, whatever it says, is there, or it
// is wrong; counts that go round 16 bits in their sum are not taken for less.
func TestSackThatSaysTooMuch(t *testing.T) {
	for _, counts := range [][2]uint16{{65535, 1}, {1, 65535}, {65535, 65535}, {32768, 32768}, {16384, 49152}, {49152, 16384}, {0, 65535}, {65535, 0}, {256, 0}, {0, 256}, {16384, 0}, {0, 16384}, {32768, 0}, {65534, 3}, {1, 0}, {0, 1}} {
		head := []byte("\x00\x00\x00\x01\x00\x00\x00\x02")
		head = binary.BigEndian.AppendUint16(binary.BigEndian.AppendUint16(head, counts[0]), counts[1])
		for _, there := range []int{0, 4, 8, 1384} {
			s := headed(api.Sack, 0, 16+there) + string(head) + many("\x00\x01\x00\x01", there/4)
			want := api.ErrForm
			if there == 4 && counts[0]+counts[1] == 1 && counts[0]*counts[1] == 0 {
				want = api.OK
			}
			if err := wantLike(t, fmt.Sprintf("%v said, %d bytes there", counts, there), s); err != want {
				t.Errorf("%v said, %d bytes there: the words make %d of it", counts, there, err)
			}
		}
	}
}

// K1: how many Items a Type takes, and of which Types.
func TestItemsOfEachType(t *testing.T) {
	for _, kind := range kinds() {
		for number := range 5 {
			for _, item := range []tlv.Item{{Type: 1}, {Type: 1, Value: "v"}, {Type: 0}, {Type: 2}, {Type: 7, Value: "abc"}, {Type: 257}, {Type: 65535}, {Type: 65536}, {Type: 65537}, {Type: -1}, {Type: -65535}, {Type: math.MaxInt}, {Type: math.MinInt}} {
				c := right(kind)
				c.Items = slices.Repeat([]tlv.Item{item}, number)
				wantBuiltLike(t, text(c), c)
				if number > 1 {
					c.Items[number-2] = tlv.Item{Type: 1, Value: "another"}
					wantBuiltLike(t, text(c), c)
				}
			}
		}
	}
	for _, c := range []struct {
		kind, number, of int
		want             api.Errno
	}{
		{api.Heartbeat, 0, 1, api.ErrArg}, {api.Heartbeat, 1, 1, api.OK}, {api.Heartbeat, 2, 1, api.ErrArg}, {api.Heartbeat, 1, 2, api.ErrArg}, {api.Heartbeat, 1, 0, api.ErrArg},
		{api.HeartAck, 0, 1, api.ErrArg}, {api.HeartAck, 1, 1, api.OK}, {api.HeartAck, 2, 1, api.ErrArg}, {api.HeartAck, 1, 257, api.ErrArg},
		{api.Error, 0, 1, api.ErrArg}, {api.Error, 1, 1, api.OK}, {api.Error, 2, 1, api.OK}, {api.Error, 349, 1, api.OK}, {api.Error, 350, 1, api.ErrLong}, {api.Error, 1000, 1, api.ErrLong}, {api.Error, 1001, 1, api.ErrArg},
		{api.Abort, 0, 1, api.OK}, {api.Abort, 1, 1, api.OK}, {api.Abort, 2, 5, api.OK}, {api.Abort, 349, 65535, api.OK}, {api.Abort, 350, 65535, api.ErrLong}, {api.Abort, 1000, 0, api.ErrLong}, {api.Abort, 1001, 0, api.ErrArg},
		{api.Init, 0, 1, api.OK}, {api.Init, 3, 65535, api.OK}, {api.Init, 345, 1, api.OK}, {api.Init, 346, 1, api.ErrLong}, {api.Init, 1000, 1, api.ErrLong}, {api.Init, 1001, 1, api.ErrArg}, {api.Init, 1, 65536, api.ErrArg},
		{api.InitAck, 0, 1, api.OK}, {api.InitAck, 345, 1, api.OK}, {api.InitAck, 346, 1, api.ErrLong}, {api.InitAck, 1001, 1, api.ErrArg}, {api.InitAck, 346, -1, api.ErrArg},
		{api.Shutdown, 1, 1, api.ErrArg}, {api.Data, 1, 1, api.ErrArg}, {api.Sack, 1, 1, api.ErrArg}, {api.CookieEcho, 1, 1, api.ErrArg}, {13, 1, 1, api.ErrArg},
	} {
		of := right(c.kind)
		of.Items = slices.Repeat([]tlv.Item{{Type: c.of}}, c.number)
		what := fmt.Sprintf("Type %d with %d items of Type %d", c.kind, c.number, c.of)
		if err := wantBuiltLike(t, what, of); err != c.want {
			t.Errorf("%s: the words make %d of it", what, err)
		}
	}
}

// K1: all bytes are at most 1400; Items that tlv does not take, also for their
// length, are none.
func TestBuildOfLongOnes(t *testing.T) {
	for _, kind := range []int{api.Init, api.InitAck, api.Heartbeat, api.HeartAck, api.Abort, api.Error} {
		c, ahead := right(kind), 8
		if kind == api.Init || kind == api.InitAck {
			ahead = 24
		}
		for length := range 1420 {
			c.Items = []tlv.Item{{Type: 1, Value: many("v", length)}}
			want := api.OK
			switch {
			case length > 1400:
				want = api.ErrArg
			case length > 1400-ahead:
				want = api.ErrLong
			}
			what := fmt.Sprintf("Type %d, a Value of %d bytes", kind, length)
			if err := wantBuiltLike(t, what, c); err != want {
				t.Errorf("%s: the words make %d of it", what, err)
			}
			if want == api.OK {
				wantLike(t, what, built(t, c)+"behind")
			}
		}
	}
	of := func(length int) tlv.Item { return tlv.Item{Type: 1, Value: many("v", length)} }
	for _, c := range []struct {
		lengths []int
		want    api.Errno
	}{
		{[]int{1400, 1400}, api.ErrLong}, {[]int{1400, 1400, 1188}, api.ErrLong}, {[]int{1400, 1400, 1189}, api.ErrArg}, {[]int{1400, 1400, 1400}, api.ErrArg}, {[]int{1401, 0}, api.ErrArg}, {[]int{0, 1401}, api.ErrArg}, {[]int{65536}, api.ErrArg},
		{[]int{1, 1384}, api.OK}, {[]int{1, 1385}, api.ErrLong}, {[]int{1384, 1}, api.OK}, {[]int{1384, 4}, api.OK}, {[]int{1384, 5}, api.ErrLong}, {[]int{1385, 1}, api.ErrLong}, {[]int{700, 688}, api.OK}, {[]int{700, 689}, api.ErrLong},
	} {
		for _, kind := range []int{api.Abort, api.Error} {
			one := chunk.Chunk{Type: kind}
			for _, length := range c.lengths {
				one.Items = append(one.Items, of(length))
			}
			what := fmt.Sprintf("Type %d, Values of %v bytes", kind, c.lengths)
			if err := wantBuiltLike(t, what, one); err != c.want {
				t.Errorf("%s: the words make %d of it", what, err)
			}
		}
	}
}

// K1: of a chunk that is both too long and otherwise wrong that is told.
func TestBuildFirstError(t *testing.T) {
	long := []tlv.Item{{Type: 1, Value: many("v", 1399)}}
	for _, kind := range []int{api.Init, api.InitAck, api.Heartbeat, api.HeartAck, api.Abort, api.Error} {
		whole := right(kind)
		whole.Items = long
		wantBuild(t, fmt.Sprintf("Type %d, too long", kind), whole, "", api.ErrLong)
		for i, change := range []func(*chunk.Chunk){
			func(c *chunk.Chunk) { c.Flags = 2 }, func(c *chunk.Chunk) { c.Flags = -1 }, func(c *chunk.Chunk) { c.Text = "x" }, func(c *chunk.Chunk) { c.Ppid = 1 }, func(c *chunk.Chunk) { c.Stream = 1 }, func(c *chunk.Chunk) { c.Ssn = 1 },
			func(c *chunk.Chunk) { c.Gaps = gapsOf(1) }, func(c *chunk.Chunk) { c.Dups = []uint32{0} }, func(c *chunk.Chunk) { c.Type = -1 }, func(c *chunk.Chunk) { c.Type = 256 + kind },
			func(c *chunk.Chunk) { c.Items = append(slices.Clone(long), tlv.Item{Type: 65536}) },
		} {
			c := whole
			change(&c)
			wantBuild(t, fmt.Sprintf("Type %d, too long, change %d", kind, i), c, "", api.ErrArg)
		}
	}
	for i, c := range []chunk.Chunk{
		{Type: api.Init, Outs: 1, Ins: 1, Items: long}, {Type: api.Init, Tag: 1, Ins: 1, Items: long}, {Type: api.InitAck, Tag: 1, Outs: 1, Items: long},
		{Type: api.Heartbeat, Items: []tlv.Item{{Type: 2, Value: long[0].Value}}}, {Type: api.HeartAck, Items: slices.Repeat(long, 2)}, {Type: api.Shutdown, Items: long}, {Type: api.Complete, Items: long}, {Type: 200, Items: long}, {Type: 200, Text: many("x", 1397)}, {Type: api.Sack, Gaps: gapsOf(300)}, {Type: api.Sack, Dups: make([]uint32, 350)},
	} {
		wantBuild(t, fmt.Sprintf("too long, and wrong, %d", i), c, "", api.ErrArg)
	}
}

// K2: bytes, written out; the chapter's first.
func TestParseWrittenOut(t *testing.T) {
	none := chunk.Chunk{}
	info := func(kind int, value string) chunk.Chunk {
		return chunk.Chunk{Type: kind, Items: []tlv.Item{{Type: 1, Value: value}}}
	}
	for _, c := range []struct {
		s    string
		want chunk.Chunk
		size int
		err  api.Errno
	}{
		{"\x00\x03\x00\x11\x00\x00\x00\x01" + many("\x00", 8) + "x", chunk.Chunk{Flags: 3, Tsn: 1, Text: "x"}, 17, api.OK},
		{"\x0b\x00\x00\x04", chunk.Chunk{Type: api.CookieAck}, 4, api.OK},
		{"", none, 0, api.ErrShort}, {"\x0b", none, 0, api.ErrShort}, {"\x0b\x00\x00", none, 0, api.ErrShort}, {"\x0b\x00\x00\x05", none, 0, api.ErrShort}, {"\x0b\x00\x01\x04", none, 0, api.ErrShort}, {"\xff\xff\xff\xff", none, 0, api.ErrShort},
		{"\x0b\x00\x00\x00", none, 0, api.ErrForm}, {"\x0b\x00\x00\x03", none, 0, api.ErrForm}, {"\x0b\x00\x00\x03xxxx", none, 0, api.ErrForm}, {"\x00\x00\x00\x00", none, 0, api.ErrForm},
		{"\x00\x03\x00\x11\x00\x00\x00\x01" + many("\x00", 8) + "x\x00", chunk.Chunk{Flags: 3, Tsn: 1, Text: "x"}, 18, api.OK},
		{"\x00\x03\x00\x11\x00\x00\x00\x01" + many("\x00", 8) + "x\x00\x00", chunk.Chunk{Flags: 3, Tsn: 1, Text: "x"}, 19, api.OK},
		{"\x00\x03\x00\x11\x00\x00\x00\x01" + many("\x00", 8) + "x\x00\x00\x00", chunk.Chunk{Flags: 3, Tsn: 1, Text: "x"}, 20, api.OK},
		{"\x00\x03\x00\x11\x00\x00\x00\x01" + many("\x00", 8) + "x\x00\x00\x00\x01", chunk.Chunk{Flags: 3, Tsn: 1, Text: "x"}, 20, api.OK},
		{"\x00\x03\x00\x11\x00\x00\x00\x01" + many("\x00", 8) + "x\x01", none, 0, api.ErrForm},
		{"\x00\x03\x00\x11\x00\x00\x00\x01" + many("\x00", 8) + "x\x00\x00\x01", none, 0, api.ErrForm},
		{"\x00\x03\x00\x10\x00\x00\x00\x01" + many("\x00", 8), none, 0, api.ErrForm},
		{"\x00\x03\x00\x0f\x00\x00\x00\x01" + many("\x00", 8), none, 0, api.ErrForm},
		{"\x00\x08\x00\x11" + many("\x00", 12) + "x", none, 0, api.ErrForm},
		{"\x07\x00\x00\x08\x00\x00\x00\x05more", chunk.Chunk{Type: api.Shutdown, Tsn: 5}, 8, api.OK},
		{"\x07\x00\x00\x07\x00\x00\x05\x00", none, 0, api.ErrForm}, {"\x07\x00\x00\x04", none, 0, api.ErrForm}, {"\x07\x00\x00\x09\x00\x00\x00\x05\x00\x00\x00\x00", none, 0, api.ErrForm}, {"\x07\x00\x00\x0c\x00\x00\x00\x05\x00\x00\x00\x00", none, 0, api.ErrForm}, {"\x07\x01\x00\x08\x00\x00\x00\x05", none, 0, api.ErrForm},
		{"\x0b\x00\x00\x05\x00\x00\x00\x00", none, 0, api.ErrForm}, {"\x08\x00\x00\x08\x00\x00\x00\x00", none, 0, api.ErrForm}, {"\x0e\x02\x00\x04", none, 0, api.ErrForm}, {"\x0e\x01\x00\x04", chunk.Chunk{Type: api.Complete, Flags: 1}, 4, api.OK},
		{"\x04\x00\x00\x0a\x00\x01\x00\x06ab\x00\x00", info(4, "ab"), 12, api.OK},
		{"\x04\x00\x00\x0b\x00\x01\x00\x06ab\x00\x00", info(4, "ab"), 12, api.OK},
		{"\x04\x00\x00\x0c\x00\x01\x00\x06ab\x00\x00", info(4, "ab"), 12, api.OK},
		{"\x05\x00\x00\x0b\x00\x01\x00\x06ab\x00", info(5, "ab"), 11, api.OK},
		{"\x05\x00\x00\x0a\x00\x01\x00\x06ab\x00", info(5, "ab"), 11, api.OK},
		{"\x05\x00\x00\x0b\x00\x01\x00\x06ab\x01\x00", none, 0, api.ErrForm}, {"\x05\x00\x00\x0b\x00\x01\x00\x06ab\x00\x01", none, 0, api.ErrForm}, {"\x05\x00\x00\x0c\x00\x01\x00\x06ab\x00\x01", none, 0, api.ErrForm}, {"\x05\x00\x00\x0d\x00\x01\x00\x06ab\x00\x00\x00\x00\x00\x00", none, 0, api.ErrForm}, {"\x05\x00\x00\x10\x00\x01\x00\x06ab\x00\x00\x00\x00\x00\x00", none, 0, api.ErrForm},
		{"\x05\x00\x00\x04", none, 0, api.ErrForm}, {"\x05\x00\x00\x08\x00\x02\x00\x04", none, 0, api.ErrForm}, {"\x05\x00\x00\x08\x01\x01\x00\x04", none, 0, api.ErrForm}, {"\x05\x00\x00\x0c\x00\x01\x00\x04\x00\x01\x00\x04", none, 0, api.ErrForm}, {"\x05\x00\x00\x07\x00\x01\x00", none, 0, api.ErrForm}, {"\x05\x00\x00\x08\x00\x01\x00\x05x\x00\x00\x00", none, 0, api.ErrForm}, {"\x05\x00\x00\x08\x00\x01\x00\x03", none, 0, api.ErrForm},
		{"\x09\x00\x00\x04", none, 0, api.ErrForm}, {"\x06\x00\x00\x04", chunk.Chunk{Type: api.Abort}, 4, api.OK}, {"\x06\x02\x00\x04", none, 0, api.ErrForm},
		{"\x0a\x00\x00\x04", none, 0, api.ErrForm}, {"\x0a\x00\x00\x05c", chunk.Chunk{Type: api.CookieEcho, Text: "c"}, 5, api.OK}, {"\x0a\x00\x00\x08c\x00\x00\x00", chunk.Chunk{Type: api.CookieEcho, Text: "c\x00\x00\x00"}, 8, api.OK}, {"\x0a\x01\x00\x05c", none, 0, api.ErrForm},
		{"\x0c\xff\x00\x04", chunk.Chunk{Type: 12, Flags: 255}, 4, api.OK}, {"\xff\x00\x00\x06ab\x00\x00", chunk.Chunk{Type: 255, Text: "ab"}, 8, api.OK}, {"\xff\x00\x00\x06ab\x00\x02", none, 0, api.ErrForm},
		{"\x01\x00\x00\x14\x00\x00\x00\x01\x00\x00\x00\x00\x00\x02\x00\x03\x00\x00\x00\x00", chunk.Chunk{Type: api.Init, Tag: 1, Outs: 2, Ins: 3}, 20, api.OK},
		{"\x01\x00\x00\x14\x00\x00\x00\x00\x00\x00\x00\x00\x00\x02\x00\x03\x00\x00\x00\x00", none, 0, api.ErrForm}, {"\x02\x00\x00\x14\x00\x00\x00\x01\x00\x00\x00\x00\x00\x00\x00\x03\x00\x00\x00\x00", none, 0, api.ErrForm}, {"\x02\x00\x00\x14\x00\x00\x00\x01\x00\x00\x00\x00\x00\x02\x00\x00\x00\x00\x00\x00", none, 0, api.ErrForm},
		{"\x03\x00\x00\x10\x00\x00\x00\x01\x00\x00\x00\x02\x00\x00\x00\x00", chunk.Chunk{Type: api.Sack, Tsn: 1, Window: 2}, 16, api.OK},
		{"\x03\x00\x00\x10\x00\x00\x00\x01\x00\x00\x00\x02\x00\x01\x00\x00", none, 0, api.ErrForm}, {"\x03\x00\x00\x14\x00\x00\x00\x01\x00\x00\x00\x02\x00\x00\x00\x00\x00\x00\x00\x00", none, 0, api.ErrForm}, {"\x03\x00\x00\x0e\x00\x00\x00\x01\x00\x00\x00\x02\x00\x00\x00\x00", none, 0, api.ErrForm},
	} {
		wantParse(t, fmt.Sprintf("%q", c.s), c.s, c.want, c.size, c.err)
		wantLike(t, fmt.Sprintf("%q", c.s), c.s)
	}
}

// K2, K3: a chunk of each Type, cut at each byte, with more behind it, and
// begun later.
func TestParseCut(t *testing.T) {
	for kind := range 256 {
		c := right(kind)
		s := built(t, c)
		said := int(s[2])<<8 + int(s[3])
		for length := range len(s) {
			what := fmt.Sprintf("Type %d, %d bytes of %d", kind, length, len(s))
			if length < said {
				wantParse(t, what, s[:length], chunk.Chunk{}, 0, api.ErrShort)
			} else {
				wantParse(t, what, s[:length], c, length, api.OK)
			}
			wantLike(t, what+", begun later", s[length:])
		}
		for _, more := range []string{"", "\x00", "\xff", "\x00\x00\x00\x00", s, many("\xff", 3000)} {
			wantParse(t, fmt.Sprintf("Type %d and %.9q", kind, more), s+more, c, len(s), api.OK)
		}
	}
}

// K2: a chunk of each Type, each byte of it made each other one.
func TestParseTurned(t *testing.T) {
	for _, kind := range kinds() {
		s := built(t, right(kind))
		for place := range s {
			for by := range 256 {
				turned := put(s, place, byte(by))
				wantLike(t, fmt.Sprintf("Type %d, byte %d made %d", kind, place, by), turned)
				wantLike(t, fmt.Sprintf("Type %d, byte %d made %d, more behind it", kind, place, by), turned+many("\x00", 300))
			}
		}
	}
}

// K2: the bytes of a chunk of each Type, with each length said that they may
// have: so what is there ends within each of its numbers and Items.
func TestParseOfEachLengthSaid(t *testing.T) {
	for _, kind := range kinds() {
		s := built(t, right(kind))
		for _, behind := range []string{"", "\x00\x00\x00\x00\x00\x00\x00\x00", "\x00\x01\x00\x04\x00\x01\x00\x04", "behind"} {
			for said := range len(s) + len(behind) + 5 {
				wantLike(t, fmt.Sprintf("Type %d, %d said of %d", kind, said, len(s)), put(s+behind, 2, byte(said>>8), byte(said)))
			}
		}
	}
}

// K2: each length near those that may be, and some up to the highest of 16
// bits, with as many bytes there, one less and some more.
func TestParseOfEachLength(t *testing.T) {
	body, lengths := many("\x00", 66000), []int{65532, 65533, 65534, 65535}
	for said := range 65536 {
		if said < 2100 || said%256 < 5 {
			lengths = append(lengths, said)
		}
	}
	for _, said := range lengths {
		for _, there := range []int{said - 1, said, said + 3} {
			if there < 4 {
				continue
			}
			for _, kind := range []int{api.CookieEcho, 99, api.Abort, api.CookieAck} {
				want, c, size := api.OK, chunk.Chunk{Type: kind}, (said+3)/4*4
				switch {
				case there < said:
					want = api.ErrShort
				case said < 4:
					want = api.ErrForm
				case said > 1400:
					want = api.ErrLong
				case said > 1004, kind == api.CookieEcho && said == 4, kind != 99 && kind != api.CookieEcho && said != 4:
					want = api.ErrForm
				}
				if want != api.OK {
					c, size = chunk.Chunk{}, 0
				} else {
					c.Text, size = body[:said-4], min(size, there)
				}
				wantParse(t, fmt.Sprintf("Type %d, %d said, %d there", kind, said, there), headed(kind, 0, said)+body[:there-4], c, size, want)
			}
		}
	}
}

// K2: a Text of Data has at most 1000 bytes too, and there are numbers ahead.
func TestParseOfEachPiece(t *testing.T) {
	for length := range 1384 {
		c := chunk.Chunk{Tsn: 1, Stream: 2, Ssn: 3, Ppid: 4, Text: many("p", length)}
		s := headed(api.Data, 0, 16+length) + "\x00\x00\x00\x01\x00\x02\x00\x03\x00\x00\x00\x04" + c.Text + "\x00\x00\x00"
		what := fmt.Sprintf("a piece of %d bytes", length)
		if length == 0 || length > 1000 {
			wantParse(t, what, s, chunk.Chunk{}, 0, api.ErrForm)
		} else {
			wantParse(t, what, s, c, 16+(length+3)/4*4, api.OK)
		}
	}
}

// K2: of several errors the first: short, then a length below 4, then long,
// then the value, then the noughts.
func TestParseFirstError(t *testing.T) {
	body := many("x", 1500)
	for _, c := range []struct {
		what, s string
		want    api.Errno
	}{
		{"short, and too long a length", headed(99, 0, 1401) + body[:1396], api.ErrShort},
		{"short, and wrong Flags", headed(api.CookieAck, 9, 5), api.ErrShort},
		{"three bytes", headed(api.CookieAck, 0, 0)[:3], api.ErrShort},
		{"a length below 4, and wrong Flags", headed(api.CookieAck, 9, 1), api.ErrForm},
		{"long, and a Type with no value", headed(api.CookieAck, 0, 1401) + body[:1397], api.ErrLong},
		{"long, and wrong Flags", headed(api.Abort, 7, 1402) + body[:1398], api.ErrLong},
		{"long, and no noughts", headed(99, 0, 1401) + body, api.ErrLong},
		{"not long, but of a Text that is", headed(99, 0, 1400) + body[:1396], api.ErrForm},
		{"not long, but of Items that tlv finds long", headed(api.Abort, 0, 1400) + "\x00\x01\x05\x7d" + body[:1392], api.ErrForm},
		{"no Items, and no noughts", headed(api.Abort, 0, 5) + "xyyy", api.ErrForm},
	} {
		wantParse(t, c.what, c.s, chunk.Chunk{}, 0, c.want)
		wantLike(t, c.what, c.s)
	}
}

// drawn is as many bytes as are asked for, all kinds of them.
func drawn(chance *rand.Rand, length int) string {
	s := make([]byte, length)
	for i := range s {
		s[i] = byte(chance.Intn(256))
	}
	return string(s)
}

func drawnItems(chance *rand.Rand, many int) []tlv.Item {
	var l []tlv.Item
	for range many {
		l = append(l, tlv.Item{Type: chance.Intn(65536), Value: drawn(chance, chance.Intn(30))})
	}
	return l
}

// drawnRight is a right chunk of any Type.
func drawnRight(chance *rand.Rand) chunk.Chunk {
	kind := chance.Intn(16)
	if chance.Intn(16) == 0 {
		kind = chance.Intn(256)
	}
	c := chunk.Chunk{Type: kind, Flags: chance.Intn(flagsOf(kind) + 1)}
	switch kind {
	case api.Data:
		c.Tsn, c.Stream, c.Ssn, c.Ppid = chance.Uint32(), uint16(chance.Uint32()), uint16(chance.Uint32()), chance.Uint32()
		c.Text = drawn(chance, 1+chance.Intn(1+chance.Intn(1000)))
	case api.Init, api.InitAck:
		c.Tag, c.Window, c.Tsn = 1+uint32(chance.Intn(1<<32-1)), chance.Uint32(), chance.Uint32()
		c.Outs, c.Ins = uint16(1+chance.Intn(65535)), uint16(1+chance.Intn(65535))
		c.Items = drawnItems(chance, chance.Intn(9))
	case api.Sack:
		c.Tsn, c.Window = chance.Uint32(), chance.Uint32()
		for at := 1 + chance.Intn(9); at < 65000 && len(c.Gaps) < 100 && chance.Intn(30) > 0; at += 2 + chance.Intn(400) {
			last := at + chance.Intn(500)
			c.Gaps = append(c.Gaps, [2]uint16{uint16(at), uint16(last)})
			at = last
		}
		for range chance.Intn(101) {
			c.Dups = append(c.Dups, chance.Uint32())
		}
	case api.Heartbeat, api.HeartAck:
		c.Items = []tlv.Item{{Type: 1, Value: drawn(chance, chance.Intn(100))}}
	case api.Abort:
		c.Items = drawnItems(chance, chance.Intn(9))
	case api.Error:
		c.Items = drawnItems(chance, 1+chance.Intn(9))
	case api.Shutdown:
		c.Tsn = chance.Uint32()
	case api.ShutdownAck, api.CookieAck, api.Complete:
	case api.CookieEcho:
		c.Text = drawn(chance, 1+chance.Intn(1000))
	default:
		c.Text = drawn(chance, chance.Intn(1001))
	}
	return c
}

// K3: Parse of Build is what was handed in, and all its bytes; with bytes
// behind it, too.
func TestParseOfBuild(t *testing.T) {
	chance, kinds := rand.New(rand.NewSource(1)), map[int]int{}
	for range 20000 {
		c := drawnRight(chance)
		kinds[c.Type]++
		s := built(t, c)
		if err := wantBuiltLike(t, text(c), c); err != api.OK || chunk.Size(c) != len(s) {
			t.Errorf("%s: the words make %d of it, Size %d, %d bytes", text(c), err, chunk.Size(c), len(s))
		}
		wantParse(t, text(c), s, c, len(s), api.OK)
		wantParse(t, text(c)+" and more", s+drawn(chance, chance.Intn(20)), c, len(s), api.OK)
	}
	for kind := range 16 {
		if kinds[kind] < 500 {
			t.Errorf("Type %d was drawn %d times", kind, kinds[kind])
		}
	}
}

// K1: chunks in which a thing or two is made another one, against the words.
func TestBuildOfAnything(t *testing.T) {
	chance, told := rand.New(rand.NewSource(2)), map[api.Errno]int{}
	for range 40000 {
		c := drawnRight(chance)
		for range chance.Intn(3) {
			other, v := drawnRight(chance), reflect.ValueOf(&c).Elem()
			place := chance.Intn(v.NumField())
			v.Field(place).Set(reflect.ValueOf(other).Field(place))
		}
		if chance.Intn(3) == 0 && len(c.Items) > 0 {
			i := chance.Intn(len(c.Items))
			c.Items = slices.Clone(c.Items)
			c.Items[i] = tlv.Item{Type: c.Items[i].Type + 65536*(chance.Intn(5)/4), Value: drawn(chance, chance.Intn(1405))}
		}
		told[wantBuiltLike(t, text(c), c)]++
	}
	for _, err := range []api.Errno{api.OK, api.ErrArg, api.ErrLong} {
		if told[err] < 50 {
			t.Errorf("error %d was told %d times", err, told[err])
		}
	}
}

// K2, TH4: any bytes, and chunks with some bytes made others, cut, or with more
// behind them, against the words. What is told as a chunk is, built, its bytes
// with their noughts, but where a length counted in noughts behind Items.
func TestParseOfAnything(t *testing.T) {
	chance, told := rand.New(rand.NewSource(3)), map[api.Errno]int{}
	for i := range 60000 {
		s := drawn(chance, chance.Intn(40))
		if i%4 > 0 {
			s = built(t, drawnRight(chance))
			for range chance.Intn(3) {
				s = put(s, chance.Intn(min(len(s), 1+chance.Intn(60))), byte(chance.Intn(1+chance.Intn(256))))
			}
			s = (s + drawn(chance, 3))[:max(0, len(s)+chance.Intn(9)-5)]
		}
		told[wantLike(t, fmt.Sprintf("%q", s), s)]++
		c, size, err := chunk.Parse(s)
		if err != api.OK {
			continue
		}
		again, length := built(t, c), int(s[2])<<8+int(s[3])
		if len(again) != (size+3)/4*4 || c.Items == nil && again[:length] != s[:length] || size > len(s) || size < length {
			t.Errorf("Build of what was parsed of %q: %q", s, again)
		}
	}
	for _, err := range []api.Errno{api.OK, api.ErrShort, api.ErrForm} {
		if told[err] < 1000 {
			t.Errorf("error %d was told %d times", err, told[err])
		}
	}
}

// P1: long texts and long lists end too, and are told as what they are.
func TestLongOnes(t *testing.T) {
	long := many("\x00\x00\x05\x78", 1<<21)
	wantParse(t, "a long text", "\x63"+long[1:], chunk.Chunk{}, 0, api.ErrForm)
	wantParse(t, "a right chunk ahead of a long text", "\x0b\x00\x00\x04"+long, chunk.Chunk{Type: api.CookieAck}, 4, api.OK)
	for _, kind := range []int{api.Data, api.Init, api.Sack, api.Abort, api.Complete, 99, -1} {
		for i, change := range []func(*chunk.Chunk){
			func(c *chunk.Chunk) { c.Text = long }, func(c *chunk.Chunk) { c.Gaps = make([][2]uint16, 1<<21) }, func(c *chunk.Chunk) { c.Gaps = slices.Repeat(gapsOf(100), 1<<14) }, func(c *chunk.Chunk) { c.Dups = make([]uint32, 1<<21) },
			func(c *chunk.Chunk) { c.Items = make([]tlv.Item, 1<<20) }, func(c *chunk.Chunk) { c.Items = slices.Repeat([]tlv.Item{{Value: long[:1400]}}, 1<<16) }, func(c *chunk.Chunk) { c.Items = []tlv.Item{{Value: long}} },
		} {
			c := right(kind)
			change(&c)
			wantBuild(t, fmt.Sprintf("Type %d, long in way %d", kind, i), c, "", api.ErrArg)
		}
	}
}

// P3: nothing that is handed in is written into, nor what lies behind it.
func TestHandedInStaysAsItIs(t *testing.T) {
	gaps, dups := [][2]uint16{{1, 2}, {4, 5}, {0, 0}, {9, 9}}, []uint32{7, 8, 9}
	items := []tlv.Item{{Type: 3, Value: "c"}, {Type: 1, Value: "a"}, {Type: 70000, Value: "behind"}}
	keptGaps, keptDups, keptItems := slices.Clone(gaps), slices.Clone(dups), slices.Clone(items)
	for range 2 {
		wantBuild(t, "two of three Gaps, one of three Dups", chunk.Chunk{Type: api.Sack, Gaps: gaps[:2], Dups: dups[:1]}, "\x03\x00\x00\x1c\x00\x00\x00\x00\x00\x00\x00\x00\x00\x02\x00\x01\x00\x01\x00\x02\x00\x04\x00\x05\x00\x00\x00\x07", api.OK)
		wantBuild(t, "two of three Items", chunk.Chunk{Type: api.Abort, Items: items[:2]}, "\x06\x00\x00\x11\x00\x03\x00\x05c\x00\x00\x00\x00\x01\x00\x05a\x00\x00\x00", api.OK)
		wantBuild(t, "all", chunk.Chunk{Type: api.Sack, Gaps: gaps, Dups: dups, Items: items, Tsn: 5, Ppid: 1}, "", api.ErrArg)
	}
	if !slices.Equal(gaps, keptGaps) || !slices.Equal(dups, keptDups) || !slices.Equal(items, keptItems) {
		t.Errorf("what was handed in is another one now: %v %v %v", gaps, dups, items)
	}
}

// P3: what is answered lies in no memory that was handed in, and each answer
// in its own.
func TestAnswersAreNew(t *testing.T) {
	inside := func(s, d string) bool {
		at, from := uintptr(unsafe.Pointer(unsafe.StringData(s))), uintptr(unsafe.Pointer(unsafe.StringData(d)))
		return at >= from && at < from+uintptr(len(d))
	}
	for _, kind := range []int{api.Data, api.CookieEcho, 99, api.Init, api.Sack, api.Abort} {
		s := built(t, right(kind))
		c, _, _ := chunk.Parse(s)
		again, _, _ := chunk.Parse(s)
		if c.Text != "" && (inside(c.Text, s) || inside(built(t, c), c.Text)) {
			t.Errorf("Type %d: a Text lies in what was handed in", kind)
		}
		for i := range c.Items {
			if inside(c.Items[i].Value, s) && c.Items[i].Value != "" {
				t.Errorf("Type %d: a Value lies in what was handed in", kind)
			}
			c.Items[i] = tlv.Item{Type: 9, Value: "another one"}
		}
		for i := range c.Gaps {
			c.Gaps[i] = [2]uint16{}
		}
		for i := range c.Dups {
			c.Dups[i] = 99
		}
		if !same(again, right(kind)) {
			t.Errorf("Type %d: an answer hangs on another one", kind)
		}
		wantParse(t, "bytes that were parsed before", s, again, len(s), api.OK)
	}
}

// P4: what is answered hangs on nothing that is asked before, or at one time.
func TestAskedTogether(t *testing.T) {
	var asked sync.WaitGroup
	for from := range 8 {
		asked.Go(func() {
			chance := rand.New(rand.NewSource(int64(from)))
			for range 1000 {
				c := drawnRight(chance)
				s, err := chunk.Build(c)
				want, _ := builtByTheWords(c)
				got, size, errParse := chunk.Parse(s)
				_, _, errWrong := chunk.Parse(s[:3])
				if err != api.OK || s != want || !same(got, c) || size != len(s) || errParse != api.OK || errWrong != api.ErrShort {
					t.Errorf("asked together: %s: %.99q, %d, %d", text(c), s, err, errParse)
				}
			}
		})
	}
	asked.Wait()
}
