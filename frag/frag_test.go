package frag_test

import (
	"math"
	"math/rand"
	"reflect"
	"slices"
	"strings"
	"sync"
	"testing"

	"towline/api"
	"towline/frag"
)

const (
	half = uint32(1) << 31
	top  = ^uint32(0)
)

// edges are numbers at which the round begins, ends, or is half gone, or from
// which a few pieces reach over one of these.
func edges() []uint32 {
	return []uint32{0, 1, 9, 1000, half - 3, half - 1, half, half + 1, top - 4, top - 3, top - 2, top - 1, top}
}

// The kinds of pieces: the first, the middle, the last and the only one of a
// message, of stream 0 and Ssn 0.
var (
	first  = frag.Piece{Begin: true, Text: "f"}
	middle = frag.Piece{Text: "m"}
	last   = frag.Piece{End: true, Text: "l"}
	only   = frag.Piece{Begin: true, End: true, Text: "o"}
)

// at is a piece of a kind with a number.
func at(tsn uint32, p frag.Piece) frag.Piece {
	p.Tsn = tsn
	return p
}

// saying is a piece of a kind with a text.
func saying(text string, p frag.Piece) frag.Piece {
	p.Text = text
	return p
}

// of is a piece of a kind, of a message that is Free or not, of a stream and a
// number of it.
func of(free bool, stream, ssn uint16, p frag.Piece) frag.Piece {
	p.Free, p.Stream, p.Ssn = free, stream, ssn
	return p
}

func bag(l ...frag.Piece) frag.Bag { return frag.Bag{L: l} }

func apart(b frag.Bag) frag.Bag {
	return frag.Bag{L: append([]frag.Piece(nil), b.L...)}
}

func same(a, b frag.Bag) bool { return slices.Equal(a.L, b.L) }

// isRow tells whether pieces, as they stand, are a row, by the chapter's words.
func isRow(l []frag.Piece) bool {
	for i, p := range l {
		if int64(p.Tsn) != (int64(l[0].Tsn)+int64(i))%(int64(1)<<32) {
			return false
		}
		if p.Begin != (i == 0) || p.End != (i == len(l)-1) {
			return false
		}
		if p.Free != l[0].Free || p.Stream != l[0].Stream || !p.Free && p.Ssn != l[0].Ssn {
			return false
		}
	}
	return len(l) > 0
}

// rowByTheWords tries each row of numbers that a piece of a bag may be in.
func rowByTheWords(l []frag.Piece, tsn uint32) []frag.Piece {
	for length := 1; length <= len(l); length++ {
		for ahead := range length {
			var row []frag.Piece
			for i := range length {
				for _, p := range l {
					if p.Tsn == tsn-uint32(ahead)+uint32(i) {
						row = append(row, p)
					}
				}
			}
			if len(row) == length && isRow(row) {
				return row
			}
		}
	}
	return nil
}

func putByTheWords(b frag.Bag, p frag.Piece) (frag.Bag, frag.Message, bool) {
	with := apart(b)
	for _, q := range b.L {
		if q.Tsn == p.Tsn {
			return with, frag.Message{}, false
		}
	}
	if len(p.Text) == 0 {
		return with, frag.Message{}, false
	}
	with.L = append(with.L, p)
	row := rowByTheWords(with.L, p.Tsn)
	if row == nil {
		return with, frag.Message{}, false
	}
	m := frag.Message{First: row[0].Tsn, Free: row[0].Free, Stream: row[0].Stream, Ssn: row[0].Ssn, Ppid: row[0].Ppid}
	for _, q := range row {
		m.Text += q.Text
	}
	var left frag.Bag
	for _, q := range with.L {
		if !slices.Contains(row, q) {
			left.L = append(left.L, q)
		}
	}
	return left, m, true
}

// wantPut holds what Put tells against the words, and hands it on.
func wantPut(t *testing.T, b frag.Bag, p frag.Piece) (frag.Bag, frag.Message, bool) {
	t.Helper()
	before := apart(b)
	c, m, ok := frag.Put(b, p)
	if want, wantM, wantOk := putByTheWords(before, p); !same(c, want) || m != wantM || ok != wantOk {
		t.Fatalf("Put(%+v, %+v) told\n%+v, %+v, %t, want\n%+v, %+v, %t", before, p, c, m, ok, want, wantM, wantOk)
	}
	if !same(b, before) {
		t.Fatalf("Put made %+v of what was handed in, %+v", b, before)
	}
	return c, m, ok
}

// wantTold holds what is told of a bag against the words.
func wantTold(t *testing.T, b frag.Bag) {
	t.Helper()
	before := apart(b)
	texts, open := "", []uint32{}
	for _, p := range b.L {
		texts += p.Text
		if p.Begin {
			open = append(open, p.Tsn)
		}
	}
	if n := frag.Bytes(b); n != len(texts) {
		t.Fatalf("Bytes(%+v) = %d, want %d", b, n, len(texts))
	}
	if l := frag.Open(b); !slices.Equal(l, open) {
		t.Fatalf("Open(%+v) = %v, want %v", b, l, open)
	}
	if !same(b, before) {
		t.Fatalf("Bytes or Open made %+v of what was handed in, %+v", b, before)
	}
}

// fill puts pieces in, one behind the other, and hands on what was told.
func fill(t *testing.T, b frag.Bag, l ...frag.Piece) (frag.Bag, []frag.Message) {
	t.Helper()
	var told []frag.Message
	for _, p := range l {
		c, m, ok := wantPut(t, b, p)
		if ok {
			told = append(told, m)
		}
		b = c
	}
	return b, told
}

// The chapter's examples.
func TestExamples(t *testing.T) {
	if l, err := frag.Cut("abcde", 2); !slices.Equal(l, []string{"ab", "cd", "e"}) || err != api.OK {
		t.Error("Cut", l, err)
	}
	b, m, ok := frag.Put(frag.Bag{}, frag.Piece{Tsn: 5, End: true, Text: "c"})
	if ok || m != (frag.Message{}) || len(b.L) != 1 {
		t.Error("the last piece", b, m, ok)
	}
	b, m, ok = frag.Put(b, frag.Piece{Tsn: 4, Text: "b"})
	if ok || m != (frag.Message{}) || len(b.L) != 2 {
		t.Error("the middle piece", b, m, ok)
	}
	b, m, ok = frag.Put(b, frag.Piece{Tsn: 3, Begin: true, Text: "a"})
	if !ok || m != (frag.Message{First: 3, Text: "abc"}) || len(b.L) != 0 {
		t.Error("the first piece", b, m, ok)
	}
}

// F1: what Cut tells, written out.
func TestCut(t *testing.T) {
	for _, c := range []struct {
		text string
		most int
		want []string
	}{
		{"a", 1, []string{"a"}},
		{"a", 2, []string{"a"}},
		{"a", 1000, []string{"a"}},
		{"ab", 1, []string{"a", "b"}},
		{"abcd", 2, []string{"ab", "cd"}},
		{"abcd", 3, []string{"abc", "d"}},
		{"abcd", 4, []string{"abcd"}},
		{"abcd", 5, []string{"abcd"}},
		{"abcdefg", 3, []string{"abc", "def", "g"}},
		{"\x00\x00\x00", 2, []string{"\x00\x00", "\x00"}},
		{"äö", 3, []string{"\xc3\xa4\xc3", "\xb6"}}, // bytes, not letters
		{"\xff\xfe\n", 1, []string{"\xff", "\xfe", "\n"}},
	} {
		if l, err := frag.Cut(c.text, c.most); !slices.Equal(l, c.want) || err != api.OK {
			t.Errorf("Cut(%q, %d) = %q, %v", c.text, c.most, l, err)
		}
	}
}

// text is bytes that differ from place to place.
func text(length int) string {
	b := make([]byte, length)
	for i := range b {
		b[i] = byte(i*7 + i/256*31 + i/1000)
	}
	return string(b)
}

// wantPieces holds pieces of a text against the words: each has most bytes, but
// the last one, which has what is left; and one behind the other they are the text.
func wantPieces(t *testing.T, s string, most int) {
	t.Helper()
	l, err := frag.Cut(s, most)
	if err != api.OK || strings.Join(l, "") != s || len(l) != (len(s)+most-1)/most {
		t.Fatalf("Cut of %d bytes, %d: %d pieces, %v", len(s), most, len(l), err)
	}
	for i, p := range l {
		if i < len(l)-1 && len(p) != most || len(p) == 0 || len(p) > most {
			t.Fatalf("Cut of %d bytes, %d: piece %d of %d has %d", len(s), most, i, len(l), len(p))
		}
	}
}

// F1: each length and each most near one another, and at their bounds.
func TestCutLengths(t *testing.T) {
	all := text(20000)
	for length := 1; length <= 70; length++ {
		for most := 1; most <= 72; most++ {
			wantPieces(t, all[:length], most)
		}
	}
	for _, length := range []int{1, 2, 499, 500, 501, 999, 1000, 1001, 1999, 2000, 2001, 18999, 19000, 19001, 19998, 19999, 20000} {
		for _, most := range []int{1, 2, 3, 499, 500, 501, 998, 999, 1000} {
			wantPieces(t, all[:length], most)
		}
	}
}

// F1: what Cut refuses; of two errors ErrArg is told.
func TestCutErrors(t *testing.T) {
	long := text(20002)
	for _, c := range []struct {
		text string
		most int
		want api.Errno
	}{
		{"", 1, api.ErrArg},
		{"", 1000, api.ErrArg},
		{"", 0, api.ErrArg},
		{"", 1001, api.ErrArg},
		{"a", 0, api.ErrArg},
		{"a", -1, api.ErrArg},
		{"a", 1001, api.ErrArg},
		{"a", math.MinInt, api.ErrArg},
		{"a", math.MaxInt, api.ErrArg},
		{"a", 1 << 32, api.ErrArg},
		{"a", 1<<32 + 1, api.ErrArg},
		{long[:20000], 0, api.ErrArg},
		{long[:20000], 1001, api.ErrArg},
		{long[:20001], 0, api.ErrArg},
		{long[:20001], -1000, api.ErrArg},
		{long[:20001], 1001, api.ErrArg},
		{long[:20001], 1, api.ErrLong},
		{long[:20001], 5, api.ErrLong},
		{long[:20001], 1000, api.ErrLong},
		{long, 1000, api.ErrLong},
		{strings.Repeat(long, 500), 1, api.ErrLong},
	} {
		if l, err := frag.Cut(c.text, c.most); err != c.want || len(l) != 0 {
			t.Errorf("Cut of %d bytes, %d: %d pieces, %v, want %v", len(c.text), c.most, len(l), err, c.want)
		}
	}
}

// P3, P4: two Cuts of one text are apart.
func TestCutIsNew(t *testing.T) {
	s := "abcdef"
	l, _ := frag.Cut(s, 4)
	l[0], l[1] = "x", "y"
	if m, _ := frag.Cut(s, 4); !slices.Equal(m, []string{"abcd", "ef"}) || s != "abcdef" {
		t.Errorf("once more: %q", m)
	}
}

// F2: a number that is there already is not taken, whatever else the piece is,
// even if it would make a message.
func TestPutThere(t *testing.T) {
	for _, there := range []frag.Piece{first, middle, last, of(true, 3, 4, middle)} {
		for _, p := range []frag.Piece{first, middle, last, only, of(true, 3, 4, last), saying("", only), there} {
			for _, tsn := range edges() {
				b := bag(at(tsn-9, first), at(tsn, there), at(tsn+9, last))
				c, m, ok := wantPut(t, b, at(tsn, p))
				if ok || m != (frag.Message{}) || !same(b, c) {
					t.Errorf("%+v there, Put of %+v told %+v, %+v, %t", there, p, c, m, ok)
				}
			}
		}
	}
	b := bag(at(4, first), at(5, middle), at(6, middle))
	if c, _, ok := wantPut(t, b, at(6, last)); ok || !same(b, c) {
		t.Errorf("a piece that is there made a message: %+v", c)
	}
}

// F2: a piece without a Text is not taken, even if it would make a message.
func TestPutNoText(t *testing.T) {
	for _, p := range []frag.Piece{first, middle, last, only, of(true, 1, 2, only)} {
		for _, b := range []frag.Bag{{}, bag(at(4, first)), bag(at(6, last)), bag(at(4, first), at(6, last)), bag(at(5, middle))} {
			c, m, ok := wantPut(t, b, at(5, saying("", p)))
			if ok || m != (frag.Message{}) || !same(b, c) {
				t.Errorf("%+v: Put of %+v without a Text told %+v, %+v, %t", b, p, c, m, ok)
			}
		}
	}
	b := bag(at(4, first), at(6, last))
	if _, m, ok := wantPut(t, b, at(5, saying("\x00", middle))); !ok || m.Text != "f\x00l" {
		t.Errorf("a nought is a byte: told %+v, %t", m, ok)
	}
}

// F2: a piece that is the only one of its message is the message at once.
func TestPutOnly(t *testing.T) {
	for _, tsn := range edges() {
		p := frag.Piece{Tsn: tsn, Begin: true, End: true, Free: true, Stream: 65535, Ssn: 65534, Ppid: top, Text: "abc"}
		c, m, ok := wantPut(t, frag.Bag{}, p)
		if !ok || len(c.L) != 0 || m != (frag.Message{First: tsn, Free: true, Stream: 65535, Ssn: 65534, Ppid: top, Text: "abc"}) {
			t.Errorf("Put of %+v told %+v, %+v, %t", p, c, m, ok)
		}
		p.Free = false
		b := bag(at(tsn-1, first), at(tsn+1, last))
		c, m, ok = wantPut(t, b, p)
		if !ok || !same(b, c) || m != (frag.Message{First: tsn, Stream: 65535, Ssn: 65534, Ppid: top, Text: "abc"}) {
			t.Errorf("Put of %+v between others told %+v, %+v, %t", p, c, m, ok)
		}
	}
}

// F2: what is no row yet is kept as it is, behind all that were put in before.
func TestPutKeeps(t *testing.T) {
	p := frag.Piece{Tsn: 7, End: true, Free: true, Stream: 3, Ssn: 4, Ppid: 5, Text: "abc"}
	for _, b := range []frag.Bag{{}, bag(at(9, first)), bag(at(9, first), at(1, last), at(8, first), at(5, middle))} {
		c, m, ok := wantPut(t, b, p)
		if ok || m != (frag.Message{}) || len(c.L) != len(b.L)+1 || !slices.Equal(c.L[:len(b.L)], b.L) || c.L[len(b.L)] != p {
			t.Errorf("Put to %+v told %+v, %+v, %t", b, c, m, ok)
		}
	}
}

// F2: what makes a row of two pieces, and what does not, written out.
func TestTwoPieces(t *testing.T) {
	for i, c := range []struct {
		a, b  frag.Piece
		whole bool
	}{
		{at(4, first), at(5, last), true},
		{at(top, first), at(0, last), true},
		{at(half-1, first), at(half, last), true},
		{at(4, last), at(5, first), false},
		{at(4, first), at(6, last), false},
		{at(4, first), at(4+half, last), false},
		{at(5, first), at(4, last), false},
		{at(4, first), at(5, middle), false},
		{at(4, middle), at(5, last), false},
		{at(4, first), at(5, first), false},
		{at(4, last), at(5, last), false},
		{at(4, first), at(5, of(false, 1, 0, last)), false},
		{at(4, first), at(5, of(false, 0, 1, last)), false},
		{at(4, first), at(5, of(true, 0, 0, last)), false},
		{at(4, of(true, 0, 0, first)), at(5, last), false},
		{at(4, of(true, 0, 0, first)), at(5, of(true, 0, 0, last)), true},
		{at(4, of(true, 0, 1, first)), at(5, of(true, 0, 2, last)), true},
		{at(4, of(true, 1, 0, first)), at(5, of(true, 2, 0, last)), false},
		{at(4, of(true, 1, 7, first)), at(5, of(false, 1, 7, last)), false},
		{at(4, of(false, 65535, 65535, first)), at(5, of(false, 65535, 65535, last)), true},
		{at(4, of(false, 0, 65535, first)), at(5, of(false, 0, 0, last)), false},
		{at(4, of(false, 256, 1, first)), at(5, of(false, 0, 1, last)), false},
	} {
		for _, l := range [][]frag.Piece{{c.a, c.b}, {c.b, c.a}} {
			left, told := fill(t, frag.Bag{}, l...)
			if c.whole != (len(told) == 1) || c.whole != (len(left.L) == 0) || !c.whole && !slices.Equal(left.L, l) {
				t.Errorf("%d: %+v told %+v, left %+v", i, l, told, left)
			}
		}
	}
}

// F2: of three pieces, each one that spoils the row, at each place of it.
func TestThreePieces(t *testing.T) {
	spoils := []func(p *frag.Piece){
		func(p *frag.Piece) { p.Begin = !p.Begin },
		func(p *frag.Piece) { p.End = !p.End },
		func(p *frag.Piece) { p.Free = !p.Free },
		func(p *frag.Piece) { p.Stream++ },
		func(p *frag.Piece) { p.Stream += 256 },
		func(p *frag.Piece) { p.Ssn-- },
		func(p *frag.Piece) { p.Ssn += 256 },
		func(p *frag.Piece) { p.Tsn += 7 },
	}
	for _, tsn := range edges() {
		for place := range 3 {
			for i, spoil := range spoils {
				l := []frag.Piece{at(tsn, first), at(tsn+1, middle), at(tsn+2, last)}
				spoil(&l[place])
				if isRow(l) {
					t.Fatalf("%d: %+v is a row", i, l)
				}
				eachOrder(l, func(l []frag.Piece) {
					_, told := fill(t, frag.Bag{}, l...)
					if slices.ContainsFunc(told, func(m frag.Message) bool { return len(m.Text) == 3 }) {
						t.Errorf("spoilt by %d at %d: %+v told %+v", i, place, l, told)
					}
				})
			}
		}
	}
}

// eachOrder goes through all orders of pieces.
func eachOrder(l []frag.Piece, tell func(l []frag.Piece)) {
	l = slices.Clone(l)
	var from func(i int)
	from = func(i int) {
		if i == len(l) {
			tell(slices.Clone(l))
			return
		}
		for j := i; j < len(l); j++ {
			l[i], l[j] = l[j], l[i]
			from(i + 1)
			l[i], l[j] = l[j], l[i]
		}
	}
	from(0)
}

// F2: a message has what its first piece has; the numbers that pieces of a Free
// message have do not matter, nor does anybody's Ppid.
func TestMessageOfFirst(t *testing.T) {
	for _, tsn := range edges() {
		for _, free := range []bool{false, true} {
			l := []frag.Piece{
				{Tsn: tsn, Begin: true, Free: free, Stream: 15, Ssn: 9, Ppid: 51, Text: "ab"},
				{Tsn: tsn + 1, Free: free, Stream: 15, Ssn: 9, Ppid: 52, Text: "\xff"},
				{Tsn: tsn + 2, Free: free, Stream: 15, Ssn: 9, Ppid: 0, Text: "\x00\n"},
				{Tsn: tsn + 3, End: true, Free: free, Stream: 15, Ssn: 9, Ppid: 54, Text: "cde"},
			}
			if free {
				l[1].Ssn, l[2].Ssn, l[3].Ssn = 0, 65535, 8
			}
			want := frag.Message{First: tsn, Free: free, Stream: 15, Ssn: 9, Ppid: 51, Text: "ab\xff\x00\ncde"}
			eachOrder(l, func(l []frag.Piece) {
				left, told := fill(t, frag.Bag{}, l...)
				if len(left.L) != 0 || len(told) != 1 || told[0] != want {
					t.Errorf("%+v told %+v, left %+v", l, told, left)
				}
			})
		}
	}
}

// F2: a row goes from its Begin to its End, and no further, though there are
// pieces of the same message's kind on both sides.
func TestRowEnds(t *testing.T) {
	for _, tsn := range edges() {
		for _, outer := range []frag.Piece{first, middle, last, only} {
			rest := []frag.Piece{at(tsn+3, outer), at(tsn-1, outer), at(tsn-2, middle), at(tsn+4, middle)}
			row := []frag.Piece{at(tsn, saying("a", first)), at(tsn+1, saying("b", middle)), at(tsn+2, saying("c", last))}
			for i, p := range row {
				others := append(slices.Delete(slices.Clone(row), i, i+1), rest...)
				left, m, ok := wantPut(t, bag(others...), p)
				if !ok || m.First != tsn || m.Text != "abc" || !slices.Equal(left.L, rest) {
					t.Errorf("%+v told %+v, %t, left %+v", p, m, ok, left)
				}
			}
		}
	}
}

// F2: a row that the piece is not in stays, though it is whole.
func TestOtherRowsStay(t *testing.T) {
	rows := []frag.Piece{at(4, first), at(5, last), at(9, only), at(11, last), at(10, first)}
	for _, p := range []frag.Piece{at(3, first), at(3, middle), at(6, last), at(6, middle), at(8, last), at(12, first), at(100, middle)} {
		c, m, ok := wantPut(t, bag(rows...), p)
		if ok || m != (frag.Message{}) || !slices.Equal(c.L, append(slices.Clone(rows), p)) {
			t.Errorf("Put of %+v told %+v, %+v, %t", p, c, m, ok)
		}
	}
	c, m, ok := wantPut(t, bag(rows...), at(7, only))
	if !ok || m.First != 7 || m.Text != "o" || !slices.Equal(c.L, rows) {
		t.Errorf("a message between others: told %+v, %+v, %t", c, m, ok)
	}
}

// F2: pieces and messages of any size are taken: Put knows no most.
func TestPutOfAnySize(t *testing.T) {
	for _, size := range []int{1, 999, 1000, 1001, 20000, 20001, 70000} {
		s := text(size)
		_, m, ok := wantPut(t, frag.Bag{}, saying(s, at(5, only)))
		if !ok || m.Text != s {
			t.Errorf("a piece of %d bytes: told %d, %t", size, len(m.Text), ok)
		}
		_, told := fill(t, frag.Bag{}, at(5, saying(s, first)), at(7, saying(s, last)), at(6, saying(s, middle)))
		if len(told) != 1 || told[0].Text != s+s+s {
			t.Errorf("three pieces of %d bytes: %d messages", size, len(told))
		}
	}
}

// F2: Bytes, written out.
func TestBytes(t *testing.T) {
	for _, c := range []struct {
		b    frag.Bag
		want int
	}{
		{frag.Bag{}, 0},
		{frag.Bag{L: []frag.Piece{}}, 0},
		{bag(at(5, first)), 1},
		{bag(at(5, saying("äö", first))), 4},
		{bag(at(5, saying("\x00\xff", first)), at(9, saying("abc", last))), 5},
		{bag(at(5, saying("aaa", first)), at(9, saying("bb", first)), at(top, saying("c", middle)), at(0, of(true, 1, 2, last))), 7},
		{bag(at(5, saying(text(20000), middle)), at(1, saying(text(1000), last))), 21000},
	} {
		if got := frag.Bytes(c.b); got != c.want {
			t.Errorf("Bytes of %d pieces = %d, want %d", len(c.b.L), got, c.want)
		}
		wantTold(t, c.b)
	}
}

// F2: Open, written out: in the order in which they were put in.
func TestOpen(t *testing.T) {
	for _, c := range []struct {
		b    frag.Bag
		want []uint32
	}{
		{frag.Bag{}, nil},
		{frag.Bag{L: []frag.Piece{}}, nil},
		{bag(at(5, middle), at(4, last)), nil},
		{bag(at(5, first)), []uint32{5}},
		{bag(at(9, first), at(4, last), at(5, first), at(top, middle), at(0, first), at(7, of(true, 1, 2, first))), []uint32{9, 5, 0, 7}},
		{bag(at(half, first), at(top, only), at(3, last), at(2, first)), []uint32{half, top, 2}},
	} {
		if got := frag.Open(c.b); !slices.Equal(got, c.want) {
			t.Errorf("Open(%+v) = %v, want %v", c.b, got, c.want)
		}
		wantTold(t, c.b)
	}
}

// kinds are pieces of all kinds that Put tells apart.
func kinds() []frag.Piece {
	var l []frag.Piece
	for bits := range 32 {
		set := func(bit int) bool { return bits&bit > 0 }
		p := frag.Piece{Begin: set(1), End: set(2), Free: set(4), Ppid: uint32(bits)}
		if set(8) {
			p.Stream = 1
		}
		if set(16) {
			p.Ssn = 1
		}
		l = append(l, p)
	}
	return l
}

// wantAll holds against the words what comes of each bag that has, beside one
// that is put in, some of so many pieces of these kinds with numbers that
// follow one another; in the order of their numbers, or in the other one.
func wantAll(t *testing.T, from uint32, count int, kinds []frag.Piece) {
	t.Helper()
	var fill func(l []frag.Piece, own, place int)
	fill = func(l []frag.Piece, own, place int) {
		tsn := from + uint32(place)
		switch {
		case place == count:
			for _, p := range kinds {
				wantPut(t, bag(l...), at(from+uint32(own), saying("p", p)))
			}
		case place == own:
			fill(l, own, place+1)
		default:
			fill(l, own, place+1)
			for _, p := range kinds {
				p = at(tsn, saying(string(rune('a'+place)), p))
				fill(append(slices.Clone(l), p), own, place+1)
				if len(l) > 0 {
					fill(append([]frag.Piece{p}, l...), own, place+1)
				}
			}
		}
	}
	for own := range count {
		fill(nil, own, 0)
	}
}

// F2: all bags of up to two pieces of all kinds around one that is put in,
// against the words.
func TestAllOfThree(t *testing.T) {
	for _, from := range []uint32{4, half - 1, top - 1, top} {
		wantAll(t, from, 3, kinds())
	}
}

// F2: all bags of up to three or four pieces of some kinds around one that is
// put in, against the words.
func TestAllOfFive(t *testing.T) {
	wantAll(t, top-1, 4, []frag.Piece{first, middle, last, only, of(false, 0, 1, middle), of(false, 1, 0, last)})
	wantAll(t, top-2, 4, []frag.Piece{of(true, 0, 0, first), of(true, 0, 1, middle), of(true, 0, 2, last), middle, last})
	wantAll(t, top-2, 5, []frag.Piece{first, middle, last, of(false, 0, 1, middle)})
}

// anyBag is one with pieces near one another, each number once, in any order.
func anyBag(chance *rand.Rand) frag.Bag {
	from, count := edges()[chance.Intn(len(edges()))], chance.Intn(14)
	var b frag.Bag
	for _, d := range chance.Perm(count + 2)[:count] {
		b.L = append(b.L, anyPiece(chance, from+uint32(d)))
	}
	return b
}

// anyPiece is one of a kind that is often alike.
func anyPiece(chance *rand.Rand, tsn uint32) frag.Piece {
	rarely := func() bool { return chance.Intn(25) == 0 }
	p := frag.Piece{Tsn: tsn, Begin: chance.Intn(4) == 0, End: chance.Intn(4) == 0, Free: rarely(), Ppid: chance.Uint32()}
	if rarely() {
		p.Stream = uint16(chance.Intn(3))
	}
	if rarely() {
		p.Ssn = uint16(chance.Intn(3))
	}
	p.Text = text(20)[:1+chance.Intn(9)]
	return p
}

// F2: any bags, and any pieces put into them, against the words.
func TestAnything(t *testing.T) {
	chance := rand.New(rand.NewSource(1))
	messages := 0
	for range 60000 {
		b := anyBag(chance)
		wantTold(t, b)
		tsn := chance.Uint32()
		if len(b.L) > 0 {
			tsn = b.L[chance.Intn(len(b.L))].Tsn + uint32(chance.Intn(5)) - 2
		}
		c, m, ok := wantPut(t, b, anyPiece(chance, tsn))
		wantTold(t, c)
		if ok && len(m.Text) > 0 && len(c.L) < len(b.L) {
			messages++
		}
	}
	if messages < 1000 {
		t.Errorf("only %d messages of several pieces", messages)
	}
}

// cut is the pieces of a message, from a number on.
func cut(t *testing.T, m frag.Message, most int) []frag.Piece {
	t.Helper()
	texts, err := frag.Cut(m.Text, most)
	if err != api.OK {
		t.Fatalf("Cut of %d bytes, %d: %v", len(m.Text), most, err)
	}
	var l []frag.Piece
	for i, s := range texts {
		l = append(l, frag.Piece{Tsn: m.First + uint32(i), Begin: i == 0, End: i == len(texts)-1, Free: m.Free, Stream: m.Stream, Ssn: m.Ssn, Ppid: m.Ppid, Text: s})
	}
	return l
}

// F3: the pieces of a text are the message but once, with the last one, in
// whatever order they are put in; until then all wait.
func TestEachOrder(t *testing.T) {
	for _, from := range []uint32{4, half - 2, top - 2, top} {
		for length := 1; length <= 6; length++ {
			for _, free := range []bool{false, true} {
				want := frag.Message{First: from, Free: free, Stream: 3, Ssn: 4, Ppid: 5, Text: "abcdef"[:length]}
				eachOrder(cut(t, want, 1), func(l []frag.Piece) {
					wantOnlyTheLast(t, frag.Bag{}, l, want)
				})
			}
		}
	}
}

// wantOnlyTheLast puts pieces into a bag: the last one, and it alone, must tell
// the message; what was there stays.
func wantOnlyTheLast(t *testing.T, b frag.Bag, l []frag.Piece, want frag.Message) {
	t.Helper()
	waits := apart(b)
	for i, p := range l {
		c, m, ok := frag.Put(b, p)
		if i == len(l)-1 {
			if !ok || m != want || !same(c, waits) {
				t.Fatalf("%+v: told %+v, %t, left %+v", l, m, ok, c)
			}
			return
		}
		if ok || m != (frag.Message{}) || !slices.Equal(c.L, append(slices.Clone(waits.L), l[:i+1]...)) {
			t.Fatalf("%+v: piece %d told %+v, %t, left %+v", l, i, m, ok, c)
		}
		b = c
	}
}

// F3: so it is of long texts, cut anyhow.
func TestLongTexts(t *testing.T) {
	chance := rand.New(rand.NewSource(2))
	for _, length := range []int{1, 999, 1000, 1001, 4711, 20000} {
		for _, most := range []int{40, 100, 333, 999, 1000} {
			want := frag.Message{First: top - 1, Stream: 1, Ssn: 65535, Ppid: 9, Text: text(length)}
			l := cut(t, want, most)
			wantOnlyTheLast(t, frag.Bag{}, l, want)
			slices.Reverse(l)
			wantOnlyTheLast(t, frag.Bag{}, l, want)
			chance.Shuffle(len(l), func(i, j int) { l[i], l[j] = l[j], l[i] })
			wantOnlyTheLast(t, bag(at(1<<30, first), at(top-2, middle)), l, want)
		}
	}
}

// messages are some whose pieces follow one another.
func messages(chance *rand.Rand, from uint32) []frag.Message {
	var l []frag.Message
	for i := range 2 + chance.Intn(6) {
		m := frag.Message{First: from, Free: chance.Intn(3) == 0, Stream: uint16(chance.Intn(2)), Ssn: uint16(chance.Intn(2)), Ppid: uint32(i), Text: text(40)[chance.Intn(9) : 10+chance.Intn(20)]}
		from += uint32((len(m.Text) + 3) / 4)
		l = append(l, m)
	}
	return l
}

// F3: pieces of many messages, in whatever order, and some twice: each message
// is told once, with the last one of its pieces; a piece of another one changes
// nothing of it.
func TestManyMessages(t *testing.T) {
	chance := rand.New(rand.NewSource(3))
	for range 3000 {
		all := messages(chance, edges()[chance.Intn(len(edges()))])
		var l []frag.Piece
		left := map[frag.Message]int{}
		owner := map[uint32]frag.Message{}
		for _, m := range all {
			for _, p := range cut(t, m, 4) {
				l, owner[p.Tsn] = append(l, p), m
				left[m]++
			}
		}
		chance.Shuffle(len(l), func(i, j int) { l[i], l[j] = l[j], l[i] })
		var b frag.Bag
		for i, p := range l {
			m := owner[p.Tsn]
			left[m]--
			c, told, ok := wantPut(t, b, p)
			if ok != (left[m] == 0) || ok && told != m {
				t.Fatalf("%+v: piece %d told %+v, %t", l, i, told, ok)
			}
			if twice := c.L; len(twice) > 0 {
				if d, _, ok := wantPut(t, c, twice[chance.Intn(len(twice))]); ok || !same(c, d) {
					t.Fatalf("%+v: a piece twice made %+v", c, d)
				}
			}
			b = c
		}
		if len(b.L) != 0 || frag.Bytes(b) != 0 || len(frag.Open(b)) != 0 {
			t.Fatalf("after all: %+v", b)
		}
	}
}

// F2: what is told is not kept: the same pieces make the message once more.
func TestToldIsGone(t *testing.T) {
	m := frag.Message{First: top, Text: "abc"}
	l := cut(t, m, 1)
	b, told := fill(t, frag.Bag{}, append(slices.Clone(l), l...)...)
	if len(b.L) != 0 || !slices.Equal(told, []frag.Message{m, m}) {
		t.Errorf("told %+v, left %+v", told, b)
	}
}

// anyWrong is a bag that has numbers twice, and pieces without a Text.
func anyWrong(chance *rand.Rand) frag.Bag {
	b := anyBag(chance)
	for i := range b.L {
		switch chance.Intn(5) {
		case 0:
			b.L[i].Tsn = b.L[chance.Intn(len(b.L))].Tsn
		case 1:
			b.L[i].Text = ""
		}
	}
	return b
}

// askAll asks each call something.
func askAll(b frag.Bag, p frag.Piece) []any {
	c, m, ok := frag.Put(b, p)
	return []any{frag.Bytes(b), frag.Open(b), c, m, ok}
}

// P1: of bags that are not right comes some answer, the same each time, without
// a panic; what was handed in stays as it was.
func TestWrongOnes(t *testing.T) {
	chance := rand.New(rand.NewSource(4))
	for range 20000 {
		b := anyWrong(chance)
		before := apart(b)
		for tsn := range uint32(16) {
			p := anyPiece(chance, tsn)
			if len(b.L) > 0 {
				p.Tsn += b.L[0].Tsn - 8
			}
			a := askAll(b, p)
			if !reflect.DeepEqual(a, askAll(b, p)) || !same(b, before) {
				t.Fatalf("%+v, %+v: told %+v", before, p, a)
			}
			// What came of it is taken, too.
			askAll(a[2].(frag.Bag), p)
		}
	}
}

// P1: of lists that are long each call ends, and soon.
func TestLongLists(t *testing.T) {
	const long = 1 << 17
	rows := map[string]func(i int) frag.Piece{
		"one row":       func(i int) frag.Piece { return frag.Piece{Begin: i == 0, End: i == long-1} },
		"no row":        func(i int) frag.Piece { return frag.Piece{} },
		"many rows":     func(i int) frag.Piece { return frag.Piece{Begin: i%2 == 0, End: i%2 == 1} },
		"all begin":     func(i int) frag.Piece { return frag.Piece{Begin: true} },
		"no end":        func(i int) frag.Piece { return frag.Piece{Begin: i == 0} },
		"free numbers":  func(i int) frag.Piece { return frag.Piece{Free: true, Ssn: uint16(i), End: i == long-1} },
		"other numbers": func(i int) frag.Piece { return frag.Piece{Ssn: uint16(i)} },
	}
	for name, row := range rows {
		var b frag.Bag
		for i := range long {
			b.L = append(b.L, at(top-long/2+uint32(i), saying("x", row(i))))
		}
		for _, i := range []int{0, 1, long / 2, long - 1} {
			p := b.L[i]
			l := slices.Delete(slices.Clone(b.L), i, i+1)
			c, m, ok := frag.Put(bag(l...), p)
			if n := frag.Bytes(c) + len(m.Text); n != long || ok != (name == "one row" || name == "many rows") {
				t.Errorf("%s: Put of piece %d told a message of %d bytes, %t; %d bytes are there", name, i, len(m.Text), ok, n)
			}
		}
		askAll(b, at(5, only))
	}
	same := bag(slices.Repeat([]frag.Piece{at(5, middle)}, long)...)
	askAll(same, at(4, first))
	askAll(same, at(6, last))
}

// F2: many pieces may be put in, one behind the other: as many as there may be
// numbers above what came.
func TestManyPuts(t *testing.T) {
	const count = 4000
	var b frag.Bag
	tsn := top - 2000
	for i := range count {
		tsn++
		c, m, ok := frag.Put(b, frag.Piece{Tsn: tsn, Begin: i == count-1, End: i == 0, Text: "x"})
		if ok || m != (frag.Message{}) || len(c.L) != i+1 {
			t.Fatalf("piece %d: told %+v, %t, %d pieces", i, m, ok, len(c.L))
		}
		b = c
	}
	if frag.Bytes(b) != count || !slices.Equal(frag.Open(b), []uint32{tsn}) {
		t.Errorf("%d bytes, %v", frag.Bytes(b), frag.Open(b))
	}
}

// roomy is a bag of which the list has room behind it, with something in it; and
// the whole list.
func roomy() (frag.Bag, []frag.Piece) {
	whole := []frag.Piece{at(8, first), at(4, first), at(5, middle), at(9, middle), at(3, last), at(6, last), at(10, last)}
	return frag.Bag{L: whole[:5]}, whole
}

// puts are pieces of which comes each kind of answer, put into a roomy bag.
func puts() []frag.Piece {
	return []frag.Piece{at(6, last), at(10, last), at(7, only), at(5, last), at(6, saying("", last)), at(6, middle), at(2, first), at(100, first)}
}

// P3: whatever is put in, nothing that was handed in, nor what lies behind it,
// is written into; and no later change of one bag is seen in the other one.
func TestHandedInStays(t *testing.T) {
	for i, p := range puts() {
		b, whole := roomy()
		before := slices.Clone(whole)
		c, _, _ := frag.Put(b, p)
		told := apart(c)
		frag.Bytes(b)
		open := frag.Open(b)
		if !slices.Equal(whole, before) {
			t.Errorf("put %d made %+v of %+v", i, whole, before)
		}
		for j := range c.L {
			c.L[j] = frag.Piece{Tsn: 55}
		}
		if _ = append(c.L, at(66, only), at(67, only)); !slices.Equal(whole, before) {
			t.Errorf("put %d: a change of what it told made %+v of %+v", i, whole, before)
		}
		again, m, ok := frag.Put(b, p)
		for j := range whole {
			whole[j] = frag.Piece{Tsn: 44}
		}
		if !same(again, told) || !slices.Equal(open, []uint32{8, 4}) {
			t.Errorf("put %d told %+v and %v, which became %+v (%+v, %t)", i, told, open, again, m, ok)
		}
	}
}

// P3: what lies behind a list's length is not read: a piece there is not there.
func TestBehindTheLength(t *testing.T) {
	b, whole := roomy()
	if _, _, ok := wantPut(t, b, whole[5]); !ok {
		t.Error("a piece behind the list's length was taken for one that is there")
	}
	if c, m, ok := wantPut(t, frag.Bag{L: whole[:1]}, whole[3]); ok || len(c.L) != 2 {
		t.Errorf("a piece behind the list's length was taken into a row: told %+v, %+v", c, m)
	}
	none := frag.Bag{L: whole[:0]}
	if c, _, ok := wantPut(t, none, at(8, last)); ok || len(c.L) != 1 || frag.Bytes(none) != 0 || len(frag.Open(none)) != 0 {
		t.Errorf("of nothing: told %+v, %t, Bytes %d, Open %v", c, ok, frag.Bytes(none), frag.Open(none))
	}
}

// P3: two Puts to one bag do not see each other, though the bag was made by a
// call, and has room behind its list.
func TestTwoOfOne(t *testing.T) {
	for count := range 20 {
		b := bag(at(8, first), at(4, first), at(5, middle))
		for i := range count {
			b, _, _ = frag.Put(b, at(200+uint32(i), middle))
		}
		before := apart(b)
		for i, one := range puts() {
			for j, two := range puts() {
				c, _, _ := frag.Put(b, one)
				kept := apart(c)
				if frag.Put(b, two); !same(c, kept) || !same(b, before) {
					t.Errorf("%d pieces, put %d, then %d: told %+v, which became %+v; %+v became %+v", count, i, j, kept, c, before, b)
				}
				if frag.Put(c, two); !same(c, kept) {
					t.Errorf("%d pieces, put %d, then %d to that: told %+v, which became %+v", count, i, j, kept, c)
				}
			}
		}
	}
}

// P5: lists without elements are as good as none.
func TestEmptyLists(t *testing.T) {
	for _, b := range []frag.Bag{{}, {L: []frag.Piece{}}, {L: make([]frag.Piece, 0, 9)}} {
		wantTold(t, b)
		for _, p := range []frag.Piece{first, middle, last, only, saying("", only), {}} {
			wantPut(t, b, p)
			wantPut(t, b, at(top, p))
		}
	}
}

// P4: what is told hangs on the pieces, not on how they lie in the bag, but for
// the order of those that are left.
func TestOrderOfBagDoesNotMatter(t *testing.T) {
	chance := rand.New(rand.NewSource(5))
	for range 5000 {
		b := anyBag(chance)
		mixed := apart(b)
		chance.Shuffle(len(mixed.L), func(i, j int) { mixed.L[i], mixed.L[j] = mixed.L[j], mixed.L[i] })
		p := anyPiece(chance, 5)
		if len(b.L) > 0 {
			p.Tsn = b.L[chance.Intn(len(b.L))].Tsn + 1
		}
		_, m, ok := frag.Put(b, p)
		if _, n, mixedOk := frag.Put(mixed, p); m != n || ok != mixedOk || frag.Bytes(b) != frag.Bytes(mixed) {
			t.Fatalf("%+v and %+v, Put of %+v: told %+v, %t and %+v, %t", b, mixed, p, m, ok, n, mixedOk)
		}
	}
}

// P4: what is told hangs on nothing but what is handed in, whatever was asked
// before, or is asked at one time, of the same bag.
func TestAskedTogether(t *testing.T) {
	shared, _ := roomy()
	before := apart(shared)
	var asked sync.WaitGroup
	for from := range 8 {
		asked.Go(func() {
			chance := rand.New(rand.NewSource(int64(from)))
			for range 500 {
				p := anyPiece(chance, uint32(chance.Intn(14)))
				if !reflect.DeepEqual(askAll(shared, p), askAll(before, p)) {
					t.Errorf("%+v: told otherwise", p)
				}
			}
		})
	}
	asked.Wait()
	if !same(shared, before) {
		t.Errorf("after all: %+v", shared)
	}
}
