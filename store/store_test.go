package store_test

import (
	"math"
	"math/rand"
	"reflect"
	"slices"
	"strconv"
	"strings"
	"sync"
	"testing"

	"towline/api"
	"towline/frag"
	"towline/order"
	"towline/store"
)

const top = 1<<16 - 1

// text is so many bytes, of which each is another one than those near it.
func text(size int) string {
	var b strings.Builder
	for i := range size {
		b.WriteByte(byte('a' + (i+i/23)%23))
	}
	return b.String()
}

// msg is a message of a stream, with an Id.
func msg(id int, stream uint16, text string) store.Message {
	return store.Message{Id: id, Stream: stream, Ppid: uint32(id) + 300, Text: text}
}

func free(m store.Message) store.Message {
	m.Free = true
	return m
}

func until(m store.Message, time int) store.Message {
	m.Until = time
	return m
}

func queue(at int, next []uint16, l ...store.Message) store.Store {
	return store.Store{L: l, At: at, Next: next}
}

func apart(s store.Store) store.Store {
	return store.Store{L: append([]store.Message(nil), s.L...), At: s.At, Next: append([]uint16(nil), s.Next...)}
}

func same(a, b store.Store) bool {
	return slices.Equal(a.L, b.L) && a.At == b.At && slices.Equal(a.Next, b.Next)
}

func isNothing(s store.Store) bool { return len(s.L) == 0 && s.At == 0 && len(s.Next) == 0 }

// bytesByTheWords counts what waits byte by byte.
func bytesByTheWords(s store.Store) int {
	count := 0
	for i, m := range s.L {
		for j := range []byte(m.Text) {
			if i > 0 || j >= s.At {
				count++
			}
		}
	}
	return count
}

func pushByTheWords(s store.Store, m store.Message) (store.Store, api.Errno) {
	if int(m.Stream) > len(s.Next)-1 {
		return store.Store{}, api.ErrStream
	}
	if len(m.Text) == 0 {
		return store.Store{}, api.ErrArg
	}
	if len(m.Text) > 20000 {
		return store.Store{}, api.ErrLong
	}
	r := apart(s)
	r.L = append(r.L, m)
	if bytesByTheWords(r) > 60000 {
		return store.Store{}, api.ErrFull
	}
	return r, api.OK
}

func expireByTheWords(s store.Store, now int) (store.Store, []int) {
	r := apart(s)
	var gone []int
	for i := len(r.L) - 1; i >= 0; i-- {
		taken := 0
		if i == 0 {
			taken = s.At
		}
		if until := r.L[i].Until; taken == 0 && until > 0 && until < now {
			gone = append([]int{r.L[i].Id}, gone...)
			r.L = append(r.L[:i:i], r.L[i+1:]...)
		}
	}
	return r, gone
}

func takeByTheWords(s store.Store, most int) (store.Store, frag.Piece, int, bool) {
	r := apart(s)
	if len(r.L) == 0 {
		return r, frag.Piece{}, 0, false
	}
	if most < 1 {
		most = 1
	}
	if most > 1000 {
		most = 1000
	}
	m := r.L[0]
	p := frag.Piece{Free: m.Free, Stream: m.Stream, Ppid: m.Ppid, Begin: r.At == 0}
	if !m.Free {
		p.Ssn = r.Next[m.Stream]
	}
	for r.At < len(m.Text) && len(p.Text) < most {
		p.Text += string(m.Text[r.At : r.At+1])
		r.At++
	}
	if r.At == len(m.Text) {
		p.End = true
		r.L, r.At = r.L[1:], 0
		if !m.Free {
			r.Next[m.Stream]++
		}
	}
	return r, p, m.Id, true
}

// wantPush holds what Push tells against the words, and hands it on.
func wantPush(t *testing.T, s store.Store, m store.Message) (store.Store, api.Errno) {
	t.Helper()
	before := apart(s)
	r, err := store.Push(s, m)
	if want, wantErr := pushByTheWords(before, m); !same(r, want) || err != wantErr {
		t.Fatalf("Push(%+v, %+v) told\n%+v, %v, want\n%+v, %v", before, m, r, err, want, wantErr)
	}
	if !same(s, before) {
		t.Fatalf("Push made %+v of what was handed in, %+v", s, before)
	}
	return r, err
}

// wantExpire holds what Expire tells against the words, and hands it on.
func wantExpire(t *testing.T, s store.Store, now int) (store.Store, []int) {
	t.Helper()
	before := apart(s)
	r, gone := store.Expire(s, now)
	if want, wantGone := expireByTheWords(before, now); !same(r, want) || !slices.Equal(gone, wantGone) {
		t.Fatalf("Expire(%+v, %d) told\n%+v, %v, want\n%+v, %v", before, now, r, gone, want, wantGone)
	}
	if !same(s, before) {
		t.Fatalf("Expire made %+v of what was handed in, %+v", s, before)
	}
	return r, gone
}

// wantTake holds what Take tells against the words, and hands it on.
func wantTake(t *testing.T, s store.Store, most int) (store.Store, frag.Piece, int, bool) {
	t.Helper()
	before := apart(s)
	r, p, id, ok := store.Take(s, most)
	want, wantP, wantId, wantOk := takeByTheWords(before, most)
	if !same(r, want) || p != wantP || id != wantId || ok != wantOk {
		t.Fatalf("Take(%+v, %d) told\n%+v, %+v, %d, %t, want\n%+v, %+v, %d, %t", before, most, r, p, id, ok, want, wantP, wantId, wantOk)
	}
	if !same(s, before) {
		t.Fatalf("Take made %+v of what was handed in, %+v", s, before)
	}
	return r, p, id, ok
}

// wantCounts holds Bytes and Ids against the words.
func wantCounts(t *testing.T, s store.Store) {
	t.Helper()
	before := apart(s)
	var ids []int
	for i := range s.L {
		ids = append(ids, s.L[i].Id)
	}
	if n, want := store.Bytes(s), bytesByTheWords(s); n != want {
		t.Fatalf("Bytes(%+v) = %d, want %d", s, n, want)
	}
	if l := store.Ids(s); !slices.Equal(l, ids) {
		t.Fatalf("Ids(%+v) = %v, want %v", s, l, ids)
	}
	if !same(s, before) {
		t.Fatalf("Bytes or Ids made %+v of what was handed in, %+v", s, before)
	}
}

// filled is a new store with messages in it.
func filled(t *testing.T, streams int, l ...store.Message) store.Store {
	t.Helper()
	s, err := store.New(streams)
	if err != api.OK {
		t.Fatal(err)
	}
	for _, m := range l {
		if s, err = wantPush(t, s, m); err != api.OK {
			t.Fatalf("Push of %+v: %v", m, err)
		}
	}
	return s
}

// The chapter's examples.
func TestExamples(t *testing.T) {
	s := filled(t, 1, msg(1, 0, "abcde"), msg(2, 0, "x"))
	for i, want := range []frag.Piece{
		{Begin: true, Text: "abc", Ppid: 301},
		{End: true, Text: "de", Ppid: 301},
		{Begin: true, End: true, Text: "x", Ssn: 1, Ppid: 302},
	} {
		r, p, id, ok := store.Take(s, 3)
		if p != want || id != 1+i/2 || !ok {
			t.Errorf("%d: told %+v, %d, %t, want %+v", i, p, id, ok, want)
		}
		s = r
	}
	if !same(s, queue(0, []uint16{2})) {
		t.Errorf("after all: %+v", s)
	}
}

// B1.
func TestNew(t *testing.T) {
	for streams := -20; streams <= 40; streams++ {
		s, err := store.New(streams)
		if streams < 1 || streams > 16 {
			if err != api.ErrArg || !isNothing(s) {
				t.Errorf("New(%d) = %+v, %v", streams, s, err)
			}
			continue
		}
		if err != api.OK || !same(s, queue(0, make([]uint16, streams))) {
			t.Errorf("New(%d) = %+v, %v", streams, s, err)
		}
	}
	for _, streams := range []int{math.MinInt, math.MaxInt, 1 << 32, 1<<32 + 1, top + 1, top + 2, 256, 257} {
		if s, err := store.New(streams); err != api.ErrArg || !isNothing(s) {
			t.Errorf("New(%d) = %+v, %v", streams, s, err)
		}
	}
}

// P3: two stores that are new share nothing.
func TestNewIsNew(t *testing.T) {
	a, _ := store.New(3)
	a.Next[1] = 9
	if b, _ := store.New(3); !slices.Equal(b.Next, []uint16{0, 0, 0}) {
		t.Errorf("once more: %+v", b)
	}
}

// B1: a stream that a store does not have, of a message that is Free or not; it is
// told ahead of all else that may be wrong.
func TestPushNoStream(t *testing.T) {
	full := []store.Message{msg(1, 0, text(20000)), msg(2, 0, text(20000)), msg(3, 0, text(20000))}
	for _, count := range []int{1, 2, 3, 16, 17} {
		next := make([]uint16, count)
		for _, stream := range []uint16{0, 1, 2, 3, 4, 15, 16, 17, 18, 255, 256, 257, 1 << 15, top} {
			there := int(stream) < count
			for _, size := range []int{0, 1, 20000, 20001} {
				m := msg(7, stream, text(size))
				for _, s := range []store.Store{queue(0, next), queue(0, next, full...), queue(1, next, full[0])} {
					for _, m := range []store.Message{m, free(m)} {
						if r, err := wantPush(t, s, m); (err == api.ErrStream) == there || !there && !isNothing(r) {
							t.Errorf("%d streams, Push of stream %d told %+v, %v", count, stream, r, err)
						}
					}
				}
			}
		}
	}
	for _, next := range [][]uint16{nil, {}, make([]uint16, 0, 9)} {
		if r, err := wantPush(t, queue(0, next), msg(1, 0, "x")); err != api.ErrStream || !isNothing(r) {
			t.Errorf("of no streams: told %+v, %v", r, err)
		}
	}
	if r, err := wantPush(t, queue(0, make([]uint16, top+1)), msg(1, top, "x")); err != api.OK || len(r.L) != 1 {
		t.Errorf("the last stream there may be: %v", err)
	}
}

// B1: no Text; it is told ahead of ErrFull.
func TestPushNoText(t *testing.T) {
	over := text(70000)
	for i, s := range []store.Store{
		queue(0, []uint16{0, 0}),
		queue(2, []uint16{4, 5}, msg(1, 1, "abc")),
		queue(0, []uint16{4, 5}, msg(1, 1, over[:60000])),
		queue(0, []uint16{4, 5}, msg(1, 1, over)),
	} {
		for _, m := range []store.Message{{}, msg(1, 1, ""), free(until(msg(1, 1, ""), 5))} {
			if r, err := wantPush(t, s, m); err != api.ErrArg || !isNothing(r) {
				t.Errorf("%d: told %+v, %v", i, r, err)
			}
		}
	}
}

// B1: each length near the bound; ErrLong is told ahead of ErrFull.
func TestPushLong(t *testing.T) {
	over := text(70000)
	for size := 1; size <= 40001; size++ {
		if size > 40 && size < 19970 || size > 20030 && size < 39970 {
			continue
		}
		m := msg(size, 1, over[:size])
		want := api.OK
		if size > 20000 {
			want = api.ErrLong
		}
		if r, err := wantPush(t, queue(0, []uint16{3, 9}), m); err != want || err == api.OK && !same(r, queue(0, []uint16{3, 9}, m)) {
			t.Errorf("%d bytes: %v", size, err)
		}
		if want == api.OK {
			want = api.ErrFull
		}
		if r, err := wantPush(t, queue(0, []uint16{3, 9}, msg(0, 0, over[:60000])), m); err != want || !isNothing(r) {
			t.Errorf("%d bytes, and 60000 wait: %v", size, err)
		}
	}
	// Bytes count, not letters.
	if _, err := wantPush(t, queue(0, []uint16{0}), msg(1, 0, strings.Repeat("ä", 10000))); err != api.OK {
		t.Error("20000 bytes of 10000 letters", err)
	}
	if _, err := wantPush(t, queue(0, []uint16{0}), msg(1, 0, strings.Repeat("ä", 10001))); err != api.ErrLong {
		t.Error("20002 bytes of 10001 letters", err)
	}
}

// B1: what waits and what comes are 60000 bytes at most; what was taken does not
// count.
func TestPushFull(t *testing.T) {
	over := text(80000)
	for _, size := range []int{1, 2, 3, 999, 1000, 1001, 19999, 20000} {
		m := msg(9, 0, over[:size])
		for _, taken := range []int{0, 1, 2, 500, 19999} {
			for off := -4; off <= 4; off++ {
				// So many bytes are left when the message is in.
				last := 60000 - size + off - 20000 - (20000 - taken)
				l := []store.Message{msg(1, 1, over[:20000]), free(msg(2, 0, over[:20000]))}
				if last > 0 {
					l = append(l, msg(3, 1, over[:last]))
				} else if last < 0 {
					continue
				}
				s := queue(taken, []uint16{7, top}, l...)
				r, err := wantPush(t, s, m)
				if off > 0 && (err != api.ErrFull || !isNothing(r)) {
					t.Errorf("%d of %d bytes too many, %d taken: told %v", off, size, taken, err)
				}
				if off <= 0 && (err != api.OK || store.Bytes(r) != 60000+off) {
					t.Errorf("%d bytes, %d less than may be, %d taken: told %v", size, -off, taken, err)
				}
			}
		}
	}
	for _, s := range []store.Store{queue(0, []uint16{0}, msg(1, 0, over[:60001])), queue(9999, []uint16{0}, msg(1, 0, over[:70000]))} {
		if _, err := wantPush(t, s, msg(2, 0, "x")); err != api.ErrFull {
			t.Errorf("%d bytes wait: told %v", store.Bytes(s), err)
		}
	}
	if _, err := wantPush(t, queue(20000, []uint16{0}, msg(1, 0, over[:79999])), msg(2, 0, "x")); err != api.OK {
		t.Errorf("59999 bytes wait: told %v", err)
	}
}

// B1: messages stand one behind the other, as they are, and nothing else changes.
func TestPushAtTheEnd(t *testing.T) {
	l := []store.Message{
		{Id: 4, Stream: 1, Ppid: 5, Text: "abc"},
		{Id: 4, Stream: 1, Ppid: 5, Text: "abc"},
		{Id: -1, Stream: 0, Free: true, Text: "\x00", Until: -9},
		{Id: math.MaxInt, Stream: 2, Ppid: math.MaxUint32, Text: "\xff", Until: math.MaxInt},
		{Text: "x", Id: math.MinInt, Until: math.MinInt},
		{Text: "y", Until: 1},
	}
	for taken := range 3 {
		s := queue(taken, []uint16{1, top, 3}, msg(7, 2, "qrs"))
		for i, m := range l {
			r, err := wantPush(t, s, m)
			if err != api.OK || !same(r, queue(taken, []uint16{1, top, 3}, append([]store.Message{msg(7, 2, "qrs")}, l[:i+1]...)...)) {
				t.Errorf("%d taken: Push of %+v told %+v, %v", taken, m, r, err)
			}
			s = r
			wantCounts(t, s)
		}
	}
}

// B1, B3: Bytes and Ids, written out.
func TestCounts(t *testing.T) {
	three := []store.Message{msg(5, 0, "abc"), free(msg(-2, 1, "ä")), until(msg(5, 0, "\x00\x00\x00\x00"), 1)}
	for i, c := range []struct {
		s     store.Store
		bytes int
		ids   []int
	}{
		{store.Store{}, 0, nil},
		{queue(0, []uint16{1, 2}), 0, nil},
		{queue(0, []uint16{1, 2}, three...), 9, []int{5, -2, 5}},
		{queue(1, []uint16{1, 2}, three...), 8, []int{5, -2, 5}},
		{queue(2, []uint16{1, 2}, three...), 7, []int{5, -2, 5}},
		{queue(1, []uint16{1, 2}, three[1:]...), 5, []int{-2, 5}},
		{queue(3, []uint16{1, 2}, three[2]), 1, []int{5}},
		{queue(0, []uint16{1, 2}, store.Message{Text: "x"}), 1, []int{0}},
	} {
		if n, ids := store.Bytes(c.s), store.Ids(c.s); n != c.bytes || !slices.Equal(ids, c.ids) {
			t.Errorf("%d: told %d, %v, want %d, %v", i, n, ids, c.bytes, c.ids)
		}
		wantCounts(t, c.s)
	}
}

// times are moments at edges, and some near one another.
func times() []int {
	return []int{math.MinInt, math.MinInt + 1, -1000, -2, -1, 0, 1, 2, 3, 9, 10, 11, 1 << 32, 1<<32 + 1, 1 << 40, math.MaxInt - 1, math.MaxInt}
}

// B2: each time a message may wait until, held against each time there may be; a
// message of which some was taken goes on, whatever the time is.
func TestExpireTimes(t *testing.T) {
	for _, now := range times() {
		for _, time := range times() {
			for _, m := range []store.Message{until(msg(8, 1, "abc"), time), free(until(msg(8, 1, "abc"), time))} {
				for taken := range 3 {
					s := queue(taken, []uint16{4, 5}, m)
					r, gone := wantExpire(t, s, now)
					if taken == 0 && time > 0 && time < now {
						if !same(r, queue(0, []uint16{4, 5})) || !slices.Equal(gone, []int{8}) {
							t.Errorf("Until %d, at %d: told %+v, %v", time, now, r, gone)
						}
					} else if !same(r, s) || len(gone) != 0 {
						t.Errorf("Until %d, at %d, %d taken: told %+v, %v", time, now, taken, r, gone)
					}
				}
				// Behind another one it is gone, though some of that was taken.
				r, gone := wantExpire(t, queue(2, []uint16{4, 5}, msg(3, 0, "xyz"), m), now)
				if (len(gone) == 1) != (time > 0 && time < now) || len(r.L)+len(gone) != 2 || r.At != 2 {
					t.Errorf("Until %d, at %d, behind another one: told %+v, %v", time, now, r, gone)
				}
			}
		}
	}
}

// B2: what goes and what stays, written out.
func TestExpire(t *testing.T) {
	l := []store.Message{
		until(msg(1, 0, "abc"), 10), until(msg(2, 1, "d"), 12), msg(3, 0, "e"), free(until(msg(4, 1, "fg"), 11)),
		until(msg(5, 0, "h"), -1), until(msg(1, 0, "i"), 10), until(msg(6, 0, "j"), 1),
	}
	for i, c := range []struct {
		at, now int
		gone    []int
		left    []int // places in l
	}{
		{0, -5, nil, []int{0, 1, 2, 3, 4, 5, 6}},
		{0, 0, nil, []int{0, 1, 2, 3, 4, 5, 6}},
		{0, 1, nil, []int{0, 1, 2, 3, 4, 5, 6}},
		{0, 2, []int{6}, []int{0, 1, 2, 3, 4, 5}},
		{0, 10, []int{6}, []int{0, 1, 2, 3, 4, 5}},
		{0, 11, []int{1, 1, 6}, []int{1, 2, 3, 4}},
		{1, 11, []int{1, 6}, []int{0, 1, 2, 3, 4}},
		{2, 11, []int{1, 6}, []int{0, 1, 2, 3, 4}},
		{0, 12, []int{1, 4, 1, 6}, []int{1, 2, 4}},
		{0, 13, []int{1, 2, 4, 1, 6}, []int{2, 4}},
		{2, 13, []int{2, 4, 1, 6}, []int{0, 2, 4}},
		{0, math.MaxInt, []int{1, 2, 4, 1, 6}, []int{2, 4}},
	} {
		var left []store.Message
		for _, place := range c.left {
			left = append(left, l[place])
		}
		r, gone := wantExpire(t, queue(c.at, []uint16{8, top}, l...), c.now)
		if !same(r, queue(c.at, []uint16{8, top}, left...)) || !slices.Equal(gone, c.gone) {
			t.Errorf("%d: told %+v, %v", i, r, gone)
		}
		if r, gone = wantExpire(t, r, c.now); len(gone) != 0 || len(r.L) != len(left) {
			t.Errorf("%d: once more told %+v, %v", i, r, gone)
		}
	}
}

// B2: all that may go of eight messages, with some of the first one taken or not.
func TestExpireAnySet(t *testing.T) {
	for set := range 256 {
		for taken := range 2 {
			var l, left []store.Message
			var gone []int
			for i := range 8 {
				m := until(msg(20+i, uint16(i%2), "ab"), 50-set>>i&1)
				l = append(l, m)
				if set>>i&1 == 1 && (i > 0 || taken == 0) {
					gone = append(gone, m.Id)
				} else {
					left = append(left, m)
				}
			}
			r, told := wantExpire(t, queue(taken, []uint16{1, 2}, l...), 50)
			if !same(r, queue(taken, []uint16{1, 2}, left...)) || !slices.Equal(told, gone) {
				t.Errorf("%08b, %d taken: told %+v, %v", set, taken, r, told)
			}
		}
	}
}

// mosts are bounds of a piece at the edges and beyond them.
func mosts() []int {
	return []int{math.MinInt, math.MinInt + 1, -1000, -2, -1, 0, 1, 2, 3, 255, 256, 499, 500, 999, 1000, 1001, 1002, 2000, 1 << 16, 1 << 32, 1<<32 + 1, math.MaxInt - 1, math.MaxInt}
}

// B3: most is made 1 to 1000.
func TestTakeMost(t *testing.T) {
	whole := text(5000)
	for _, most := range mosts() {
		size := most
		if most < 1 {
			size = 1
		} else if most > 1000 {
			size = 1000
		}
		for _, taken := range []int{0, 1, 1000} {
			r, p, id, ok := wantTake(t, queue(taken, []uint16{6}, msg(2, 0, whole)), most)
			want := frag.Piece{Begin: taken == 0, Ssn: 6, Ppid: 302, Text: whole[taken : taken+size]}
			if p != want || id != 2 || !ok || r.At != taken+size || len(r.L) != 1 {
				t.Errorf("Take of %d, %d taken: told %+v, %d, %t, At %d", most, taken, p, id, ok, r.At)
			}
		}
	}
}

// B3: each length of a message up to a few bytes, each place in it, and each
// most; another message waits behind it, or none.
func TestTakeEachPlace(t *testing.T) {
	for size := 1; size <= 9; size++ {
		whole := text(size)
		for taken := range size {
			for most := 1; most <= 11; most++ {
				left := whole[taken:]
				end := most >= len(left)
				if !end {
					left = left[:most]
				}
				for _, behind := range [][]store.Message{nil, {msg(5, 1, "behind")}} {
					for _, m := range []store.Message{msg(4, 1, whole), free(msg(4, 1, whole))} {
						s := queue(taken, []uint16{3, top, 7}, append([]store.Message{m}, behind...)...)
						want := frag.Piece{Begin: taken == 0, End: end, Free: m.Free, Stream: 1, Ppid: 304, Text: left}
						after := apart(s)
						after.At = taken + most
						if !m.Free {
							want.Ssn = top
						}
						if end {
							after.L, after.At = behind, 0
							if !m.Free {
								after.Next[1] = 0
							}
						}
						r, p, id, ok := wantTake(t, s, most)
						if p != want || id != 4 || !ok || !same(r, after) {
							t.Errorf("Take(%+v, %d) told %+v, %+v, %d, %t", s, most, r, p, id, ok)
						}
					}
				}
			}
		}
	}
}

// B3: lengths near the bounds of a piece, and what is left of them.
func TestTakeEdges(t *testing.T) {
	over := text(20000)
	for _, size := range []int{1, 2, 998, 999, 1000, 1001, 1002, 1999, 2000, 2001, 19999, 20000} {
		for _, most := range []int{1, 2, 333, 998, 999, 1000, 1001} {
			s, begins, count, whole := queue(0, []uint16{0}, msg(1, 0, over[:size])), 0, 0, ""
			for len(s.L) > 0 {
				r, p, id, ok := wantTake(t, s, most)
				if !ok || id != 1 || len(p.Text) > min(most, 1000) || !p.End && len(p.Text) < min(most, 1000) {
					t.Fatalf("%d bytes, by %d: told %+v, %d, %t", size, most, p, id, ok)
				}
				if p.Begin {
					begins++
				}
				if p.End != (len(r.L) == 0) {
					t.Fatalf("%d bytes, by %d: piece %d has End %t, and %d messages are left", size, most, count, p.End, len(r.L))
				}
				s, whole = r, whole+p.Text
				count++
			}
			most := min(most, 1000)
			if begins != 1 || count != (size+most-1)/most || whole != over[:size] || s.At != 0 || s.Next[0] != 1 {
				t.Errorf("%d bytes, by %d: %d pieces of %d bytes, %d with Begin, left %+v", size, most, count, len(whole), begins, s)
			}
		}
	}
}

// B3: the same pieces as Cut (15) makes of a text.
func TestTakeCuts(t *testing.T) {
	over := text(20000)
	for _, size := range []int{1, 2, 7, 1000, 1001, 5000, 20000} {
		for _, most := range []int{1, 3, 7, 700, 1000} {
			l, err := frag.Cut(over[:size], most)
			s := queue(0, []uint16{0}, msg(1, 0, over[:size]))
			for i, want := range l {
				r, p, _, ok := store.Take(s, most)
				if !ok || p.Text != want || p.Begin != (i == 0) || p.End != (i == len(l)-1) {
					t.Fatalf("%d bytes, by %d: piece %d is %+v, want %q", size, most, i, p, want)
				}
				s = r
			}
			if err != api.OK || len(s.L) != 0 {
				t.Errorf("%d bytes, by %d: left %+v, %v", size, most, s, err)
			}
		}
	}
}

// B3: the number of a stream's next message, of each number there is; it is 1 more
// behind the last piece, no sooner, and goes round.
func TestTakeEachNumber(t *testing.T) {
	for next := range top + 1 {
		s := queue(0, []uint16{5, uint16(next), 6}, msg(1, 1, "ab"), msg(2, 1, "c"))
		one, p, _, _ := store.Take(s, 1)
		two, q, _, _ := store.Take(one, 1)
		three, r, _, _ := store.Take(two, 1)
		if p.Ssn != uint16(next) || q.Ssn != uint16(next) || r.Ssn != uint16(next+1) {
			t.Fatalf("Next %d: numbers %d, %d, %d", next, p.Ssn, q.Ssn, r.Ssn)
		}
		if one.Next[1] != uint16(next) || two.Next[1] != uint16(next+1) || !slices.Equal(three.Next, []uint16{5, uint16(next + 2), 6}) {
			t.Fatalf("Next %d: became %v, %v, %v", next, one.Next, two.Next, three.Next)
		}
	}
}

// B3: what is Free has number 0, and changes no number; nor does what is not of a
// stream change that stream's.
func TestTakeFree(t *testing.T) {
	s := filled(t, 3, msg(1, 2, "ab"), free(msg(2, 2, "cd")), msg(3, 2, "e"), free(msg(4, 0, "f")), msg(5, 0, "g"), free(msg(6, 1, "h")), msg(7, 2, "i"))
	var got []frag.Piece
	var ids []int
	for {
		r, p, id, ok := wantTake(t, s, 1)
		if !ok {
			break
		}
		s, got, ids = r, append(got, p), append(ids, id)
	}
	want := []frag.Piece{
		{Stream: 2, Ppid: 301, Begin: true, Text: "a"}, {Stream: 2, Ppid: 301, End: true, Text: "b"},
		{Stream: 2, Ppid: 302, Free: true, Begin: true, Text: "c"}, {Stream: 2, Ppid: 302, Free: true, End: true, Text: "d"},
		{Stream: 2, Ppid: 303, Ssn: 1, Begin: true, End: true, Text: "e"},
		{Stream: 0, Ppid: 304, Free: true, Begin: true, End: true, Text: "f"},
		{Stream: 0, Ppid: 305, Begin: true, End: true, Text: "g"},
		{Stream: 1, Ppid: 306, Free: true, Begin: true, End: true, Text: "h"},
		{Stream: 2, Ppid: 307, Ssn: 2, Begin: true, End: true, Text: "i"},
	}
	if !slices.Equal(got, want) || !slices.Equal(ids, []int{1, 1, 2, 2, 3, 4, 5, 6, 7}) {
		t.Errorf("told %+v, %v", got, ids)
	}
	if !same(s, queue(0, []uint16{1, 0, 3})) {
		t.Errorf("after all: %+v", s)
	}
}

// B3: of no messages nothing is taken; the store stays as it is.
func TestTakeNothing(t *testing.T) {
	for _, next := range [][]uint16{nil, {}, {0}, {5, top}, make([]uint16, 17)} {
		for _, most := range mosts() {
			r, p, id, ok := wantTake(t, queue(0, next), most)
			if !same(r, queue(0, next)) || p != (frag.Piece{}) || id != 0 || ok {
				t.Errorf("Take of %d told %+v, %+v, %d, %t", most, r, p, id, ok)
			}
		}
	}
}

// B3: messages of which Id, Ppid and Text are at their edges are told as they are.
func TestTakeWhatItIs(t *testing.T) {
	for _, m := range []store.Message{
		{Id: math.MinInt, Text: "\x00"}, {Id: math.MaxInt, Ppid: math.MaxUint32, Text: "\xff\xfe"}, {Id: -1, Stream: 16, Ppid: 1, Text: "ä", Until: 1},
		{Id: 0, Stream: 15, Ppid: 1 << 31, Free: true, Text: "x", Until: math.MaxInt},
	} {
		r, p, id, ok := wantTake(t, queue(0, make([]uint16, 17), m), 1000)
		if !ok || id != m.Id || p != (frag.Piece{Begin: true, End: true, Free: m.Free, Stream: m.Stream, Ppid: m.Ppid, Text: m.Text}) || len(r.L) != 0 {
			t.Errorf("%+v told %+v, %d, %t", m, p, id, ok)
		}
	}
	// A piece may end within a letter.
	if _, p, _, _ := wantTake(t, queue(0, []uint16{0}, msg(1, 0, "äö")), 3); p.Text != "ä\xc3" || p.End {
		t.Errorf("told %+v", p)
	}
	if _, p, _, ok := wantTake(t, queue(0, make([]uint16, top+1), msg(1, top, "x")), 3); !ok || p.Stream != top {
		t.Errorf("the last stream there may be: told %+v, %t", p, ok)
	}
	// More bytes than Push lets in.
	if r, p, _, ok := wantTake(t, queue(69999, []uint16{0}, msg(1, 0, text(70000))), 3); !ok || !p.End || len(p.Text) != 1 || len(r.L) != 0 {
		t.Errorf("told %+v, %t", p, ok)
	}
}

// anyStore is one that is right.
func anyStore(chance *rand.Rand) store.Store {
	var s store.Store
	for range 1 + chance.Intn(4) {
		s.Next = append(s.Next, []uint16{0, 1, 77, top - 1, top}[chance.Intn(5)])
	}
	for range chance.Intn(6) {
		s.L = append(s.L, anyMessage(chance, len(s.Next)))
	}
	if len(s.L) > 0 && chance.Intn(2) == 0 {
		s.At = chance.Intn(len(s.L[0].Text))
	}
	return s
}

// anyMessage is a message of one of so many streams.
func anyMessage(chance *rand.Rand, streams int) store.Message {
	size := 1 + chance.Intn(9)
	switch chance.Intn(20) {
	case 0:
		size = 990 + chance.Intn(20)
	case 1:
		size = 1 + chance.Intn(20000)
	}
	from := chance.Intn(20)
	m := msg(chance.Intn(2000)-1000, uint16(chance.Intn(streams)), long[from:from+size])
	m.Free = chance.Intn(3) == 0
	m.Until = chance.Intn(30) - 5
	return m
}

// long is what messages have their bytes of.
var long = text(20100)

// anyMost is small, mostly, or at an edge.
func anyMost(chance *rand.Rand) int {
	if chance.Intn(3) == 0 {
		return mosts()[chance.Intn(len(mosts()))]
	}
	return chance.Intn(12)
}

// B1, B2, B3: any stores, and anything done with them, against the words.
func TestAnything(t *testing.T) {
	chance := rand.New(rand.NewSource(1))
	gone, ends := 0, 0
	for range 20000 {
		s := anyStore(chance)
		wantCounts(t, s)
		r, _ := wantPush(t, s, anyMessage(chance, len(s.Next)+1))
		wantCounts(t, r)
		r, ids := wantExpire(t, s, chance.Intn(30)-5)
		gone += len(ids)
		wantCounts(t, r)
		r, p, _, _ := wantTake(t, s, anyMost(chance))
		if p.End {
			ends++
		}
		wantCounts(t, r)
	}
	if gone < 10000 || ends < 3000 {
		t.Errorf("only %d messages went, and %d pieces were the last ones", gone, ends)
	}
}

// B1, B2, B3: long rows of calls on one store, against the words; what is refused
// changes nothing. It is full now and then, and empty now and then.
func TestRowsOfCalls(t *testing.T) {
	chance := rand.New(rand.NewSource(2))
	full, empty := 0, 0
	for range 20 {
		s := filled(t, 3)
		for step := range 600 {
			now := step * 4
			var err api.Errno
			r := s
			switch n := chance.Intn(10); {
			case n == 0:
				r, _ = wantExpire(t, s, now)
			case n < 4+step/80:
				var ok bool
				if r, _, _, ok = wantTake(t, s, anyMost(chance)); !ok {
					empty++
				}
			default:
				m := anyMessage(chance, 4)
				if chance.Intn(4) == 0 {
					m.Text = long[:15000]
				}
				m.Until = (now + 10 + chance.Intn(200)) * chance.Intn(2)
				if r, err = wantPush(t, s, m); err == api.ErrFull {
					full++
				}
			}
			if err == api.OK {
				s = r
			}
			wantCounts(t, s)
			if store.Bytes(s) > 60000 {
				t.Fatalf("%d bytes wait", store.Bytes(s))
			}
		}
	}
	if full < 20 || empty < 20 {
		t.Errorf("full %d times only, empty %d times", full, empty)
	}
}

// B4: the pieces of a message come one behind the other, and are its Text;
// messages that are not Free have numbers of their stream, one by one, whatever
// expires between; what was begun does not expire, and what was not, and waited
// too long, is told once, and does not come.
func TestPiecesAreTheMessages(t *testing.T) {
	chance := rand.New(rand.NewSource(3))
	for range 300 {
		streams := 1 + chance.Intn(16)
		s := filled(t, streams)
		next := make([]uint16, streams)
		waits := []store.Message{} // by the words: what was pushed, and neither ended nor went
		open, begun := "", false   // what was taken of the first one
		id, now := 0, 0
		for range 200 {
			now += chance.Intn(3)
			switch chance.Intn(5) {
			case 0, 1:
				m := anyMessage(chance, streams)
				id++
				m.Id, m.Until = id, max(0, now+chance.Intn(40)-10)
				if r, err := store.Push(s, m); err == api.OK {
					s, waits = r, append(waits, m)
				}
			case 2:
				r, ids := store.Expire(s, now)
				var left []store.Message
				for i, m := range waits {
					if late := m.Until > 0 && m.Until < now && !(begun && i == 0); late != slices.Contains(ids, m.Id) {
						t.Fatalf("%+v at %d, begun %t: went %v", m, now, begun, ids)
					} else if !late {
						left = append(left, m)
					}
				}
				if len(left)+len(ids) != len(waits) {
					t.Fatalf("%v went of %+v", ids, waits)
				}
				s, waits = r, left
			default:
				r, p, from, ok := store.Take(s, 1+chance.Intn(6))
				if ok != (len(waits) > 0) {
					t.Fatalf("%d wait, Take told %t", len(waits), ok)
				}
				if !ok {
					continue
				}
				m := waits[0]
				if from != m.Id || p.Begin == begun || p.Stream != m.Stream || p.Free != m.Free || p.Ppid != m.Ppid || p.Tsn != 0 {
					t.Fatalf("%+v: told %+v of %d, begun %t", m, p, from, begun)
				}
				if want := next[m.Stream]; p.Free && p.Ssn != 0 || !p.Free && p.Ssn != want {
					t.Fatalf("%+v: told %+v, next is %d", m, p, want)
				}
				s, open, begun = r, open+p.Text, !p.End
				if !strings.HasPrefix(m.Text, open) || p.End != (open == m.Text) {
					t.Fatalf("%+v: %q came, End %t", m, open, p.End)
				}
				if p.End {
					if !m.Free {
						next[m.Stream]++
					}
					waits, open = waits[1:], ""
				}
			}
			if !slices.Equal(s.L, waits) || s.At != len(open) || !slices.Equal(s.Next, next) {
				t.Fatalf("%+v, want %+v, %d taken, Next %v", s, waits, len(open), next)
			}
		}
	}
}

// B4: what one end takes out, the other end puts together (15) and tells in turn
// (16), though it comes in any order.
func TestToTheOtherEnd(t *testing.T) {
	chance := rand.New(rand.NewSource(4))
	for round := range 200 {
		s := filled(t, 4)
		var pushed, told [5][]string
		place := func(free bool, stream uint16) int {
			if free {
				return 4
			}
			return int(stream)
		}
		for range 15 {
			m := anyMessage(chance, 4)
			if r, err := store.Push(s, m); err == api.OK {
				s = r
				pushed[place(m.Free, m.Stream)] = append(pushed[place(m.Free, m.Stream)], m.Text)
			}
		}
		var pieces []frag.Piece
		for {
			r, p, _, ok := store.Take(s, []int{1000, 3, 700}[round%3]+chance.Intn(40))
			if !ok {
				break
			}
			p.Tsn = uint32(len(pieces)) - 5
			s, pieces = r, append(pieces, p)
			if len(pieces) > 400 {
				break // what is left need not come
			}
		}
		chance.Shuffle(len(pieces), func(i, j int) { pieces[i], pieces[j] = pieces[j], pieces[i] })
		q, _ := order.New(4)
		var bag frag.Bag
		for _, p := range pieces {
			b, m, ok := frag.Put(bag, p)
			if bag = b; !ok {
				continue
			}
			r, l, err := order.Put(q, m)
			if err != api.OK {
				t.Fatalf("%+v: %v", m, err)
			}
			q = r
			for _, m := range l {
				told[place(m.Free, m.Stream)] = append(told[place(m.Free, m.Stream)], m.Text)
			}
		}
		slices.Sort(told[4])
		slices.Sort(pushed[4])
		for i := range told {
			if i < 4 && !slices.Equal(told[i], pushed[i][:len(told[i])]) || len(s.L) == 0 && !slices.Equal(told[i], pushed[i]) {
				t.Fatalf("%d: pushed %q, told %q", i, pushed[i], told[i])
			}
		}
	}
}

// B3: numbers of a stream go round, and on.
func TestRoundAndRound(t *testing.T) {
	s := filled(t, 2)
	for i := range 3*(top+1) + 5 {
		r, err := store.Push(s, msg(i, 1, strconv.Itoa(i)))
		r, p, id, ok := store.Take(r, 1000)
		if err != api.OK || !ok || id != i || p.Text != strconv.Itoa(i) || int(p.Ssn) != i%(top+1) {
			t.Fatalf("%d: told %+v, %d, %t, %v", i, p, id, ok, err)
		}
		s = r
	}
	if !same(s, queue(0, []uint16{0, 5})) {
		t.Errorf("after all: %+v", s)
	}
}

// B1: many small messages may wait.
func TestManyMessages(t *testing.T) {
	const count = 3000
	s := filled(t, 1)
	for i := range count {
		r, err := store.Push(s, msg(i, 0, text(20)))
		if err != api.OK || len(r.L) != i+1 {
			t.Fatalf("%d: %v", i, err)
		}
		s = r
	}
	if _, err := store.Push(s, msg(0, 0, "x")); err != api.ErrFull || store.Bytes(s) != 60000 {
		t.Errorf("%d bytes wait, one more told %v", store.Bytes(s), err)
	}
	for i := range count {
		r, p, id, ok := store.Take(s, 20)
		if !ok || id != i || p.Ssn != uint16(i) || p.Text != text(20) || store.Bytes(r) != 60000-20*(i+1) {
			t.Fatalf("%d: told %+v, %d, %t", i, p, id, ok)
		}
		s = r
	}
	if !same(s, queue(0, []uint16{count})) {
		t.Errorf("after all: %+v", s)
	}
}

// anyWrong is a store that is not right, mostly: messages without a Text, or of a
// stream that is not there, and of which less than nothing, or more than there is,
// was taken.
func anyWrong(chance *rand.Rand) store.Store {
	s := anyStore(chance)
	for i := range s.L {
		switch chance.Intn(5) {
		case 0:
			s.L[i].Text = ""
		case 1:
			s.L[i].Stream = uint16(len(s.Next)) + []uint16{0, 1, 300}[chance.Intn(3)]
		}
	}
	if chance.Intn(6) == 0 {
		s.Next = nil
	}
	switch chance.Intn(3) {
	case 0:
		s.At = []int{math.MinInt, math.MinInt + 1, -60001, -1000, -2, -1, 1000, 60000, math.MaxInt - 1, math.MaxInt}[chance.Intn(10)]
	case 1:
		if len(s.L) > 0 {
			s.At = len(s.L[0].Text) - 1 + chance.Intn(3)
		}
	}
	return s
}

// askAll asks each call something.
func askAll(s store.Store, m store.Message, now, most int) []any {
	a, errA := store.Push(s, m)
	b, gone := store.Expire(s, now)
	c, p, id, ok := store.Take(s, most)
	return []any{a, errA, b, gone, c, p, id, ok, store.Bytes(s), store.Ids(s)}
}

// P1: of stores that are not right comes some answer, the same each time, without
// a panic; what was handed in stays as it was.
func TestWrongOnes(t *testing.T) {
	chance := rand.New(rand.NewSource(5))
	for range 40000 {
		s := anyWrong(chance)
		before := apart(s)
		m, now, most := anyMessage(chance, len(s.Next)+1), chance.Intn(30)-5, anyMost(chance)
		a := askAll(s, m, now, most)
		if !reflect.DeepEqual(a, askAll(s, m, now, most)) || !same(s, before) {
			t.Fatalf("%+v, %+v, %d, %d: told %+v", before, m, now, most, a)
		}
		// What came of it is taken, too.
		for _, i := range []int{0, 2, 4} {
			askAll(a[i].(store.Store), m, now, most)
		}
	}
}

// P1: who takes until nothing comes ends, of each store; of one where a piece
// can't be taken nothing comes, and it stays as it is.
func TestTakeEnds(t *testing.T) {
	chance := rand.New(rand.NewSource(6))
	for range 20000 {
		s := anyWrong(chance)
		bytes := 0
		for _, m := range s.L {
			bytes += len(m.Text)
		}
		for range bytes/500 + len(s.L) + 1 {
			r, p, id, ok := store.Take(s, 500)
			if !ok && (!same(r, s) || p != (frag.Piece{}) || id != 0) {
				t.Fatalf("Take(%+v) told %+v, %+v, %d, false", s, r, p, id)
			}
			if ok && len(p.Text) == 0 {
				t.Fatalf("Take(%+v) told %+v", s, p)
			}
			s = r
		}
		if _, p, _, ok := store.Take(s, 500); ok {
			t.Fatalf("%+v: told %+v", s, p)
		}
	}
}

// P1: of lists that are long each call ends, and soon.
func TestLongLists(t *testing.T) {
	const count = 1 << 19
	for name, time := range map[string]func(i int) int{
		"none go":    func(i int) int { return -i },
		"all go":     func(i int) int { return 1 + i },
		"some go":    func(i int) int { return i % 2 },
		"half of it": func(i int) int { return count/2 - i },
	} {
		s := store.Store{Next: make([]uint16, count)}
		var gone []int
		for i := range count {
			s.L = append(s.L, until(msg(i, uint16(i), "x"), time(i)))
			if time(i) > 0 {
				gone = append(gone, i)
			}
		}
		r, ids := store.Expire(s, math.MaxInt)
		if !slices.Equal(ids, gone) || len(r.L) != count-len(gone) {
			t.Errorf("%s: %d went, %d are left", name, len(ids), len(r.L))
		}
		if r, p, id, ok := store.Take(s, 5); !ok || id != 0 || p.Text != "x" || len(r.L) != count-1 {
			t.Errorf("%s: told %+v, %d, %t", name, p, id, ok)
		}
		if _, err := store.Push(s, msg(1, 0, "x")); err != api.ErrFull {
			t.Errorf("%s: Push told %v", name, err)
		}
		if store.Bytes(s) != count || len(store.Ids(s)) != count {
			t.Errorf("%s: %d bytes, %d Ids", name, store.Bytes(s), len(store.Ids(s)))
		}
	}
}

// roomy is a store of which the lists have room behind them, with something in it;
// and the whole lists.
func roomy() (store.Store, []store.Message, []uint16) {
	l := []store.Message{until(msg(1, 0, "abc"), 5), until(msg(2, 1, "de"), 5), free(msg(3, 1, "f")), until(msg(4, 0, "g"), 5), until(msg(5, 1, "h"), 5), msg(6, 0, "i"), msg(7, 1, "j")}
	next := []uint16{9, 8, 7, 6}
	return store.Store{L: l[:4], At: 1, Next: next[:2]}, l, next
}

// doing are calls of which comes each kind of answer.
func doing() []func(store.Store) (store.Store, []int) {
	push := func(m store.Message) func(store.Store) (store.Store, []int) {
		return func(s store.Store) (store.Store, []int) {
			r, _ := store.Push(s, m)
			return r, store.Ids(s)
		}
	}
	expire := func(now int) func(store.Store) (store.Store, []int) {
		return func(s store.Store) (store.Store, []int) { return store.Expire(s, now) }
	}
	take := func(most int) func(store.Store) (store.Store, []int) {
		return func(s store.Store) (store.Store, []int) {
			r, _, _, _ := store.Take(s, most)
			return r, store.Ids(r)
		}
	}
	wrong := func(at int) func(store.Store) (store.Store, []int) {
		return func(s store.Store) (store.Store, []int) {
			s.At = at
			return take(1)(s)
		}
	}
	return []func(store.Store) (store.Store, []int){
		push(msg(8, 0, "k")), push(msg(8, 2, "k")), push(msg(8, 0, "")), push(free(msg(8, 1, "k"))),
		expire(0), expire(5), expire(6), expire(math.MaxInt),
		take(1), take(2), take(1000), take(math.MinInt), wrong(0), wrong(9), wrong(-1),
	}
}

// P3: whatever is done, nothing that was handed in, nor what lies behind it, is
// written into; and no later change of one store, or of the Ids, is seen in the
// other one.
func TestHandedInStays(t *testing.T) {
	for i, do := range doing() {
		s, l, next := roomy()
		listBefore, nextBefore := slices.Clone(l), slices.Clone(next)
		r, ids := do(s)
		kept, idsKept := apart(r), slices.Clone(ids)
		unwritten := func() bool { return slices.Equal(l, listBefore) && slices.Equal(next, nextBefore) }
		if !unwritten() {
			t.Errorf("%d made %+v and %v of %+v and %v", i, l, next, listBefore, nextBefore)
		}
		for j := range l {
			l[j] = store.Message{Id: 44}
		}
		for j := range next {
			next[j] = 77
		}
		if !same(r, kept) || !slices.Equal(ids, idsKept) {
			t.Errorf("%d: a change of what was handed in made %+v, %v of %+v, %v", i, r, ids, kept, idsKept)
		}
		copy(l, listBefore)
		copy(next, nextBefore)
		for j := range ids {
			ids[j] = 55
		}
		if _ = append(ids, 66, 67); !unwritten() || !same(r, kept) {
			t.Errorf("%d: a change of the Ids made %+v and %v, %+v", i, l, next, r)
		}
		for j := range r.L {
			r.L[j] = store.Message{Id: 88}
		}
		for j := range r.Next {
			r.Next[j] = 88
		}
		if _, _ = append(r.L, msg(99, 0, "x"), msg(98, 0, "y")), append(r.Next, 99, 98); !unwritten() {
			t.Errorf("%d: a change of what it made is seen: %+v and %v", i, l, next)
		}
	}
}

// P3: what lies behind a list's length is not read: neither a stream nor a message
// there is there.
func TestBehindTheLength(t *testing.T) {
	s, _, _ := roomy()
	wantCounts(t, s)
	if _, err := wantPush(t, s, msg(8, 2, "k")); err != api.ErrStream {
		t.Errorf("a stream behind the list's length was taken for one that is there: %v", err)
	}
	if _, ids := wantExpire(t, s, 6); !slices.Equal(ids, []int{2, 4}) {
		t.Errorf("went %v", ids)
	}
	s.L, s.At = s.L[:0], 0
	if _, p, _, ok := wantTake(t, s, 5); ok {
		t.Errorf("a message behind the list's length was taken: %+v", p)
	}
	r, err := wantPush(t, s, msg(8, 1, "k"))
	if err != api.OK || !slices.Equal(store.Ids(r), []int{8}) {
		t.Errorf("told %+v, %v", r, err)
	}
}

// P3: two calls of one store do not see each other, though it was made by a call,
// and has room behind its lists.
func TestTwoOfOne(t *testing.T) {
	for count := range 12 {
		s, _, _ := roomy()
		s = apart(s)
		for i := range count {
			s, _ = wantPush(t, s, msg(200+i, 0, "more"))
		}
		for begun := range 3 {
			before := apart(s)
			for i, one := range doing() {
				for j, two := range doing() {
					r, ids := one(s)
					kept, idsKept := apart(r), slices.Clone(ids)
					two(s)
					if two(r); !same(r, kept) || !slices.Equal(ids, idsKept) || !same(s, before) {
						t.Errorf("%d more, %d, %d, then %d: told %+v, %v, which became %+v, %v; %+v became %+v", count, begun, i, j, kept, idsKept, r, ids, before, s)
					}
				}
			}
			s, _, _, _ = wantTake(t, s, 1)
		}
	}
}

// P5: lists without elements are as good as none.
func TestEmptyLists(t *testing.T) {
	for _, next := range [][]uint16{nil, {}, make([]uint16, 0, 9), {5}} {
		for _, l := range [][]store.Message{nil, {}, make([]store.Message, 0, 9)} {
			s := store.Store{L: l, Next: next}
			wantCounts(t, s)
			wantPush(t, s, msg(1, 0, "x"))
			wantPush(t, s, msg(1, 1, "x"))
			wantExpire(t, s, 9)
			wantTake(t, s, 9)
		}
	}
}

// P4: what is told hangs on nothing but what is handed in, whatever was asked
// before, or is asked at one time, of the same store.
func TestAskedTogether(t *testing.T) {
	shared, _, _ := roomy()
	before := apart(shared)
	var asked sync.WaitGroup
	for from := range 8 {
		asked.Go(func() {
			chance := rand.New(rand.NewSource(int64(from)))
			for range 500 {
				m, now, most := anyMessage(chance, 3), chance.Intn(9), anyMost(chance)
				if !reflect.DeepEqual(askAll(shared, m, now, most), askAll(before, m, now, most)) {
					t.Errorf("%+v, %d, %d: told otherwise", m, now, most)
				}
			}
		})
	}
	asked.Wait()
	if !same(shared, before) {
		t.Errorf("after all: %+v", shared)
	}
}
