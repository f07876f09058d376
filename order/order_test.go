package order_test

import (
	"math"
	"math/rand"
	"reflect"
	"slices"
	"strconv"
	"sync"
	"testing"

	"towline/api"
	"towline/frag"
	"towline/order"
)

const (
	half = 1 << 15
	full = 1 << 16
	top  = full - 1
)

// edges are numbers at which the round begins, ends, or is half gone, or from
// which a few messages reach over one of these.
func edges() []uint16 {
	return []uint16{0, 1, 9, 1000, half - 3, half - 1, half, half + 1, top - 4, top - 2, top - 1, top}
}

// msg is a message of a stream, with a text that no other one has.
func msg(stream, ssn uint16) frag.Message {
	return saying(strconv.Itoa(int(stream))+"/"+strconv.Itoa(int(ssn)), stream, ssn)
}

func saying(text string, stream, ssn uint16) frag.Message {
	return frag.Message{First: uint32(ssn) + 7, Stream: stream, Ssn: ssn, Ppid: uint32(stream) + 3, Text: text}
}

func free(m frag.Message) frag.Message {
	m.Free = true
	return m
}

// row is so many messages of a stream, from a number on.
func row(stream, from uint16, count int) []frag.Message {
	var l []frag.Message
	for i := range count {
		l = append(l, msg(stream, from+uint16(i)))
	}
	return l
}

func queue(next []uint16, wait ...frag.Message) order.Queue {
	return order.Queue{Next: next, Wait: wait}
}

func apart(q order.Queue) order.Queue {
	return order.Queue{Next: append([]uint16(nil), q.Next...), Wait: append([]frag.Message(nil), q.Wait...)}
}

func same(a, b order.Queue) bool {
	return slices.Equal(a.Next, b.Next) && slices.Equal(a.Wait, b.Wait)
}

// above is how far a number is above another one: 0 to 65535.
func above(n, from uint16) int { return (int(n) - int(from) + full) % full }

// gone tells whether a number is Before another one, or 2^15 away from it.
func gone(n, next uint16) bool { return above(n, next) >= half }

// seek is where the first message of a stream and a number waits, or -1.
func seek(l []frag.Message, stream int, ssn uint16) int {
	for i, m := range l {
		if int(m.Stream) == stream && m.Ssn == ssn {
			return i
		}
	}
	return -1
}

// follow takes out what follows one by one, by the chapter's words.
func follow(q *order.Queue, stream int) []frag.Message {
	var told []frag.Message
	for {
		i := seek(q.Wait, stream, q.Next[stream])
		if i < 0 {
			return told
		}
		told = append(told, q.Wait[i])
		q.Wait = append(append([]frag.Message(nil), q.Wait[:i]...), q.Wait[i+1:]...)
		q.Next[stream]++
	}
}

func putByTheWords(q order.Queue, m frag.Message) (order.Queue, []frag.Message, api.Errno) {
	r := apart(q)
	if int(m.Stream) >= len(r.Next) {
		return order.Queue{}, nil, api.ErrStream
	}
	if m.Free {
		return r, []frag.Message{m}, api.OK
	}
	next := r.Next[m.Stream]
	if gone(m.Ssn, next) || seek(r.Wait, int(m.Stream), m.Ssn) >= 0 {
		return order.Queue{}, nil, api.ErrThere
	}
	if m.Ssn != next {
		r.Wait = append(r.Wait, m)
		return r, nil, api.OK
	}
	r.Next[m.Stream] = m.Ssn + 1
	told := follow(&r, int(m.Stream))
	return r, append([]frag.Message{m}, told...), api.OK
}

func skipByTheWords(q order.Queue, stream int, to uint16) (order.Queue, []frag.Message, api.Errno) {
	r := apart(q)
	if stream < 0 || stream >= len(r.Next) {
		return order.Queue{}, nil, api.ErrStream
	}
	if gone(to, r.Next[stream]) {
		return order.Queue{}, nil, api.ErrArg
	}
	r.Next[stream], r.Wait = to, nil
	for _, m := range q.Wait {
		if int(m.Stream) != stream || !gone(m.Ssn, to) {
			r.Wait = append(r.Wait, m)
		}
	}
	told := follow(&r, stream)
	return r, told, api.OK
}

// wantPut holds what Put tells against the words, and hands it on.
func wantPut(t *testing.T, q order.Queue, m frag.Message) (order.Queue, []frag.Message, api.Errno) {
	t.Helper()
	before := apart(q)
	r, told, err := order.Put(q, m)
	want, wantTold, wantErr := putByTheWords(before, m)
	if !same(r, want) || !slices.Equal(told, wantTold) || err != wantErr {
		t.Fatalf("Put(%+v, %+v) told\n%+v, %+v, %v, want\n%+v, %+v, %v", before, m, r, told, err, want, wantTold, wantErr)
	}
	if !same(q, before) {
		t.Fatalf("Put made %+v of what was handed in, %+v", q, before)
	}
	return r, told, err
}

func wantSkip(t *testing.T, q order.Queue, stream int, to uint16) (order.Queue, []frag.Message, api.Errno) {
	t.Helper()
	before := apart(q)
	r, told, err := order.Skip(q, stream, to)
	want, wantTold, wantErr := skipByTheWords(before, stream, to)
	if !same(r, want) || !slices.Equal(told, wantTold) || err != wantErr {
		t.Fatalf("Skip(%+v, %d, %d) told\n%+v, %+v, %v, want\n%+v, %+v, %v", before, stream, to, r, told, err, want, wantTold, wantErr)
	}
	if !same(q, before) {
		t.Fatalf("Skip made %+v of what was handed in, %+v", q, before)
	}
	return r, told, err
}

// wantCounts holds Waits and Bytes against the words.
func wantCounts(t *testing.T, q order.Queue) {
	t.Helper()
	before, texts, count := apart(q), "", map[int]int{}
	for _, m := range q.Wait {
		texts += m.Text
		count[int(m.Stream)]++
	}
	for _, stream := range []int{-1, 0, 1, 2, 3, 15, 16, top, full, full + 1} {
		if n := order.Waits(q, stream); n != count[stream] {
			t.Fatalf("Waits(%+v, %d) = %d, want %d", q, stream, n, count[stream])
		}
	}
	if n := order.Bytes(q); n != len(texts) {
		t.Fatalf("Bytes(%+v) = %d, want %d", q, n, len(texts))
	}
	if !same(q, before) {
		t.Fatalf("Waits or Bytes made %+v of what was handed in, %+v", q, before)
	}
}

// fill puts messages in, one behind the other, and hands on what was told.
func fill(t *testing.T, q order.Queue, l ...frag.Message) (order.Queue, []frag.Message) {
	t.Helper()
	var all []frag.Message
	for _, m := range l {
		r, told, err := wantPut(t, q, m)
		if err != api.OK {
			t.Fatalf("Put of %+v: %v", m, err)
		}
		q, all = r, append(all, told...)
	}
	return q, all
}

// eachOrder calls a function with the messages in each order.
func eachOrder(l []frag.Message, yield func([]frag.Message)) {
	var place func(at int)
	place = func(at int) {
		if at == len(l) {
			yield(slices.Clone(l))
		}
		for i := at; i < len(l); i++ {
			l[at], l[i] = l[i], l[at]
			place(at + 1)
			l[at], l[i] = l[i], l[at]
		}
	}
	place(0)
}

// The chapter's examples.
func TestExamples(t *testing.T) {
	q, err := order.New(2)
	if err != api.OK {
		t.Fatal(err)
	}
	q, told, err := order.Put(q, msg(0, 1))
	if len(told) != 0 || err != api.OK {
		t.Error("number 1", told, err)
	}
	q, told, err = order.Put(q, msg(1, 0))
	if !slices.Equal(told, []frag.Message{msg(1, 0)}) || err != api.OK {
		t.Error("the other stream", told, err)
	}
	q, told, err = order.Put(q, msg(0, 0))
	if !slices.Equal(told, []frag.Message{msg(0, 0), msg(0, 1)}) || err != api.OK || !same(q, queue([]uint16{2, 1})) {
		t.Error("number 0", told, err, q)
	}
}

// O1.
func TestNew(t *testing.T) {
	for streams := -20; streams <= 40; streams++ {
		q, err := order.New(streams)
		if streams < 1 || streams > 16 {
			if err != api.ErrArg || q.Next != nil || q.Wait != nil {
				t.Errorf("New(%d) = %+v, %v", streams, q, err)
			}
			continue
		}
		if err != api.OK || !slices.Equal(q.Next, make([]uint16, streams)) || len(q.Wait) != 0 {
			t.Errorf("New(%d) = %+v, %v", streams, q, err)
		}
	}
	for _, streams := range []int{math.MinInt, math.MaxInt, 1 << 32, 1<<32 + 1, full, full + 1, 256, 257} {
		if q, err := order.New(streams); err != api.ErrArg || q.Next != nil || q.Wait != nil {
			t.Errorf("New(%d) = %+v, %v", streams, q, err)
		}
	}
}

// P3: two Queues that are new share nothing.
func TestNewIsNew(t *testing.T) {
	a, _ := order.New(3)
	a.Next[1] = 9
	if b, _ := order.New(3); !slices.Equal(b.Next, []uint16{0, 0, 0}) {
		t.Errorf("once more: %+v", b)
	}
}

// O2: a stream that a queue does not have, of a message that is Free or not; it
// is told ahead of ErrThere.
func TestPutNoStream(t *testing.T) {
	for _, count := range []int{0, 1, 2, 3, 16, 17} {
		next := make([]uint16, count)
		for stream := range 20 {
			for _, ssn := range []uint16{0, 1, half, top} {
				m := msg(uint16(stream), ssn)
				for _, q := range []order.Queue{queue(next), queue(next, m), queue(next, msg(0, 5), m)} {
					_, told, err := wantPut(t, q, m)
					if (err == api.ErrStream) != (stream >= count) || err != api.OK && told != nil {
						t.Errorf("%d streams, Put of %+v told %+v, %v", count, m, told, err)
					}
					if _, _, err = wantPut(t, q, free(m)); (err == api.ErrStream) != (stream >= count) {
						t.Errorf("%d streams, Put of %+v, Free, told %v", count, m, err)
					}
				}
			}
		}
		for _, stream := range []uint16{255, 256, half, top} {
			if _, _, err := wantPut(t, queue(next), msg(stream, 0)); err != api.ErrStream {
				t.Errorf("%d streams, Put of stream %d told %v", count, stream, err)
			}
		}
	}
	q := queue(make([]uint16, full))
	if r, told, err := wantPut(t, q, msg(top, 0)); err != api.OK || len(told) != 1 || r.Next[top] != 1 || r.Next[0] != 0 {
		t.Errorf("the last stream there may be: %+v, %v", told, err)
	}
}

// O2: what is Free is told at once, whatever its number is; nothing else changes,
// even if it would be its turn.
func TestPutFree(t *testing.T) {
	q := queue([]uint16{5, 0}, msg(0, 7), msg(0, 6), msg(1, 3))
	for _, stream := range []uint16{0, 1} {
		for ssn := range full {
			m := free(msg(stream, uint16(ssn)))
			r, told, err := order.Put(q, m)
			if !same(r, q) || !slices.Equal(told, []frag.Message{m}) || err != api.OK {
				t.Fatalf("Put of %+v told %+v, %+v, %v", m, r, told, err)
			}
		}
	}
	for _, m := range []frag.Message{{Free: true}, {Free: true, Stream: 1, Ssn: 3, First: 1 << 31, Ppid: math.MaxUint32, Text: "\x00"}} {
		wantPut(t, q, m)
		wantPut(t, queue([]uint16{0, 0}), m)
	}
}

// O2: each number there is, held against each next one at an edge: it is told, it
// waits, or it is refused.
func TestPutEachNumber(t *testing.T) {
	for _, next := range edges() {
		q := queue([]uint16{3, next, 4})
		for ssn := range full {
			m := msg(1, uint16(ssn))
			r, told, err := order.Put(q, m)
			ok := false
			switch d := above(uint16(ssn), next); {
			case d == 0:
				ok = err == api.OK && same(r, queue([]uint16{3, next + 1, 4})) && slices.Equal(told, []frag.Message{m})
			case d < half:
				ok = err == api.OK && same(r, queue([]uint16{3, next, 4}, m)) && len(told) == 0
			default:
				ok = err == api.ErrThere && r.Next == nil && r.Wait == nil && len(told) == 0
			}
			if !ok {
				t.Fatalf("Next %d, Put of %d told %+v, %+v, %v", next, ssn, r, told, err)
			}
		}
	}
}

// O2: the edges, written out.
func TestPutEdges(t *testing.T) {
	for i, c := range []struct {
		next, ssn uint16
		err       api.Errno
		told      bool
	}{
		{0, 0, api.OK, true},
		{0, 1, api.OK, false},
		{0, half - 1, api.OK, false},
		{0, half, api.ErrThere, false},
		{0, half + 1, api.ErrThere, false},
		{0, top, api.ErrThere, false},
		{top, top, api.OK, true},
		{top, 0, api.OK, false},
		{top, half - 2, api.OK, false},
		{top, half - 1, api.ErrThere, false},
		{top, half, api.ErrThere, false},
		{top, top - 1, api.ErrThere, false},
		{half, 0, api.ErrThere, false},
		{half, top, api.OK, false},
		{half, half - 1, api.ErrThere, false},
		{half + 1, 0, api.OK, false},
		{half + 1, 1, api.ErrThere, false},
		{half - 1, top, api.ErrThere, false},
		{half - 1, top - 1, api.OK, false},
	} {
		r, told, err := wantPut(t, queue([]uint16{c.next}), msg(0, c.ssn))
		if err != c.err || (len(told) == 1) != c.told {
			t.Errorf("%d: Next %d, Put of %d told %+v, %+v, %v", i, c.next, c.ssn, r, told, err)
		}
	}
}

// O2: a message of a stream and number that waits is refused, whatever else it
// is; one of another stream, or another number, is not.
func TestPutWaits(t *testing.T) {
	for _, next := range edges() {
		q := queue([]uint16{next, next}, msg(1, next+4), msg(0, next+3), msg(0, next+1))
		for _, d := range []uint16{1, 3} {
			for _, m := range []frag.Message{msg(0, next+d), {Ssn: next + d}, {First: 9, Ppid: 8, Ssn: next + d, Text: "other"}} {
				if r, told, err := wantPut(t, q, m); err != api.ErrThere || told != nil || r.Next != nil || r.Wait != nil {
					t.Errorf("Put of %+v, which waits, told %+v, %+v, %v", m, r, told, err)
				}
			}
		}
		for _, m := range []frag.Message{msg(0, next+2), msg(0, next+4), msg(1, next+3), msg(1, next+1), msg(1, next+5)} {
			r, told, err := wantPut(t, q, m)
			if err != api.OK || len(told) != 0 || !slices.Equal(r.Wait, append(slices.Clone(q.Wait), m)) {
				t.Errorf("Put of %+v told %+v, %+v, %v", m, r, told, err)
			}
		}
	}
}

// O2: of a queue that was made by hand, too, what waits is there, though it be
// its turn.
func TestPutWaitsInItsTurn(t *testing.T) {
	q := queue([]uint16{5}, msg(0, 6), msg(0, 5))
	if _, told, err := wantPut(t, q, saying("new", 0, 5)); err != api.ErrThere || told != nil {
		t.Errorf("told %+v, %v", told, err)
	}
}

// O2: what is told is told whole, with those that follow it one by one, and what
// is behind a gap, or of another stream, goes on waiting, in its order.
func TestPutTells(t *testing.T) {
	for _, next := range edges() {
		wait := []frag.Message{msg(0, next+5), msg(1, next+1), msg(0, next+2), msg(2, next+3), msg(0, next+1), msg(0, next+4), msg(1, next+2)}
		q := queue([]uint16{next, next, next}, wait...)
		r, told, err := wantPut(t, q, msg(0, next))
		if err != api.OK || !slices.Equal(told, []frag.Message{msg(0, next), msg(0, next+1), msg(0, next+2)}) {
			t.Errorf("Next %d: told %+v, %v", next, told, err)
		}
		if !same(r, queue([]uint16{next + 3, next, next}, wait[0], wait[1], wait[3], wait[5], wait[6])) {
			t.Errorf("Next %d: %+v", next, r)
		}
		r, told, _ = wantPut(t, r, msg(0, next+3))
		if len(told) != 3 || !same(r, queue([]uint16{next + 6, next, next}, wait[1], wait[3], wait[6])) {
			t.Errorf("Next %d, once more: told %+v, %+v", next, told, r)
		}
	}
}

// O2: messages without a Text are ones like all others.
func TestPutNoText(t *testing.T) {
	q := queue([]uint16{0})
	q, told := fill(t, q, frag.Message{Ssn: 1}, frag.Message{Free: true}, frag.Message{})
	if len(told) != 3 || !same(q, queue([]uint16{2})) {
		t.Errorf("told %+v, %+v", told, q)
	}
}

// O2: all that may wait of one stream, up to eight ahead of a number that is put
// in, against the words.
func TestAllThatMayWait(t *testing.T) {
	for _, next := range []uint16{0, half - 4, half, top - 6, top - 2, top} {
		for set := range 256 {
			var wait, back []frag.Message
			for i := range 8 {
				if set>>i&1 == 1 {
					wait = append(wait, msg(0, next+1+uint16(i)), msg(1, next+uint16(i)))
				}
			}
			back = slices.Clone(wait)
			slices.Reverse(back)
			for _, q := range []order.Queue{queue([]uint16{next, next}, wait...), queue([]uint16{next, next}, back...)} {
				for d := range uint16(10) {
					wantPut(t, q, msg(0, next+d))
					wantSkip(t, q, 0, next+d)
					wantSkip(t, q, 1, next+d)
				}
			}
		}
	}
}

// O2, O4: messages in each order are told as soon as all ahead of them came.
func TestEachOrder(t *testing.T) {
	for _, from := range []uint16{0, half - 3, top - 2, top} {
		for count := 1; count <= 7; count++ {
			all := row(0, from, count)
			eachOrder(slices.Clone(all), func(l []frag.Message) {
				q, soFar := queue([]uint16{from}), []frag.Message(nil)
				for i, m := range l {
					r, told, err := order.Put(q, m)
					soFar = append(soFar, told...)
					upTo := cameUpTo(l[:i+1], from)
					if err != api.OK || !slices.Equal(soFar, all[:upTo]) || r.Next[0] != from+uint16(upTo) || len(r.Wait) != i+1-upTo {
						t.Fatalf("%+v: message %d told %+v, %+v, %v", l, i, r, told, err)
					}
					q = r
				}
			})
		}
	}
}

// cameUpTo is how many messages came from a number on, without a gap.
func cameUpTo(l []frag.Message, from uint16) int {
	count := 0
	for slices.ContainsFunc(l, func(m frag.Message) bool { return above(m.Ssn, from) == count }) {
		count++
	}
	return count
}

// O2: rows of each length up to some hundreds, in any order, are told at once,
// with a gap behind them, or without one.
func TestRowLengths(t *testing.T) {
	chance := rand.New(rand.NewSource(1))
	for length := range 1100 {
		next := edges()[length%len(edges())]
		l := row(0, next+1, length)
		left := []frag.Message{msg(1, next+1), msg(0, next+uint16(length)+2), msg(0, next+uint16(length)+3)}
		wait := append(slices.Clone(l), left...)
		chance.Shuffle(len(wait), func(i, j int) { wait[i], wait[j] = wait[j], wait[i] })
		want := append([]frag.Message{msg(0, next)}, l...)
		for _, w := range [][]frag.Message{wait, l} {
			r, told, err := order.Put(queue([]uint16{next, next}, w...), msg(0, next))
			if err != api.OK || !slices.Equal(told, want) || !slices.Equal(r.Next, []uint16{next + uint16(length) + 1, next}) || len(r.Wait) != len(w)-length {
				t.Fatalf("%d messages: told %d, Next %v, %d wait, %v", length, len(told), r.Next, len(r.Wait), err)
			}
			r, told, err = order.Skip(queue([]uint16{next, next}, w...), 0, next+1)
			if err != api.OK || !slices.Equal(told, l) || !slices.Equal(r.Next, []uint16{next + uint16(length) + 1, next}) || len(r.Wait) != len(w)-length {
				t.Fatalf("%d messages: Skip told %d, Next %v, %d wait, %v", length, len(told), r.Next, len(r.Wait), err)
			}
		}
	}
}

// O2: all that may wait at once of a stream, 2^15 - 1 messages, is told at once.
func TestFullStream(t *testing.T) {
	chance := rand.New(rand.NewSource(2))
	for _, next := range []uint16{0, 77, half, top} {
		l := row(0, next+1, half-1)
		wait := slices.Clone(l)
		chance.Shuffle(len(wait), func(i, j int) { wait[i], wait[j] = wait[j], wait[i] })
		q := queue([]uint16{next}, wait...)
		if _, _, err := order.Put(q, msg(0, next+half)); err != api.ErrThere {
			t.Errorf("Next %d: one more told %v", next, err)
		}
		r, told, err := order.Put(q, msg(0, next))
		if err != api.OK || !same(r, queue([]uint16{next + half})) || !slices.Equal(told[1:], l) || told[0] != msg(0, next) {
			t.Errorf("Next %d: told %d messages, %v, left %d, Next %v", next, len(told), err, len(r.Wait), r.Next)
		}
		r, told, err = order.Skip(q, 0, next+10)
		if err != api.OK || !same(r, queue([]uint16{next + half})) || !slices.Equal(told, l[9:]) {
			t.Errorf("Next %d: Skip told %d messages, %v, left %d, Next %v", next, len(told), err, len(r.Wait), r.Next)
		}
	}
}

// O2: of a queue that was made by hand, all numbers but one may wait: they
// follow one another once round.
func TestOnceRound(t *testing.T) {
	for _, next := range []uint16{0, 5, half} {
		l := row(0, next+1, full-1)
		wait := append(slices.Clone(l), row(0, next+1, 3)...)
		slices.Reverse(wait)
		wait = append(wait, msg(1, next))
		r, told, err := order.Put(queue([]uint16{next, 0}, wait...), msg(0, next))
		if err != api.OK || len(told) != full || told[0] != msg(0, next) || !slices.Equal(told[1:], l) {
			t.Errorf("Next %d: told %d messages, %v", next, len(told), err)
		}
		if !slices.Equal(r.Next, []uint16{next, 0}) || len(r.Wait) != 4 {
			t.Errorf("Next %d: Next %v, %d wait", next, r.Next, len(r.Wait))
		}
		r, told, err = order.Skip(queue([]uint16{next, 0}, append(wait, msg(0, next))...), 0, next+2)
		if err != api.OK || !slices.Equal(told, l[1:half+1]) || r.Next[0] != next+half+2 {
			t.Errorf("Next %d: Skip told %d messages, %v, Next %v", next, len(told), err, r.Next)
		}
	}
}

// O3: what Waits and Bytes tell, written out.
func TestCounts(t *testing.T) {
	q := queue([]uint16{0, 0}, saying("abc", 0, 5), saying("", 1, 4), saying("ä", 0, 3), saying("\x00", 0, 2), saying("de", 16, 1), saying("f", top, 1))
	for stream, want := range map[int]int{0: 3, 1: 1, 2: 0, 16: 1, top: 1, full: 0, full + 1: 0, full + 16: 0, -1: 0, -full: 0, 1 << 32: 0, 1<<32 + 1: 0, math.MinInt: 0, math.MaxInt: 0} {
		if n := order.Waits(q, stream); n != want {
			t.Errorf("Waits of %d = %d, want %d", stream, n, want)
		}
	}
	if n := order.Bytes(q); n != 9 {
		t.Errorf("Bytes = %d", n)
	}
	wantCounts(t, q)
	wantCounts(t, order.Queue{})
	wantCounts(t, queue([]uint16{1, 2, 3}))
}

// O3: a stream that a queue does not have; it is told ahead of ErrArg.
func TestSkipNoStream(t *testing.T) {
	for _, count := range []int{0, 1, 2, 16, 17} {
		q := queue(make([]uint16, count), msg(0, 3), msg(1, 3), msg(16, 3), msg(top, 3))
		for _, stream := range []int{-1, 0, 1, 2, 15, 16, 17, top, full, full + 1, 1 << 32, 1<<32 + 1, -full, math.MinInt, math.MaxInt} {
			for _, to := range []uint16{0, 1, 3, half, top} {
				r, told, err := wantSkip(t, q, stream, to)
				if there := stream >= 0 && stream < count; (err == api.ErrStream) == there || !there && (r.Next != nil || r.Wait != nil || told != nil) {
					t.Errorf("%d streams, Skip of %d to %d told %+v, %+v, %v", count, stream, to, r, told, err)
				}
			}
		}
	}
	q := queue(make([]uint16, full+2), msg(0, 3), msg(1, 3))
	if r, told, err := wantSkip(t, q, full+1, 3); err != api.OK || len(told) != 0 || r.Next[full+1] != 3 || r.Next[1] != 0 || len(r.Wait) != 2 {
		t.Errorf("a stream that no message has: told %+v, %v", told, err)
	}
}

// O3: each number there is, held against each next one at an edge: the queue goes
// on there, or it is refused.
func TestSkipEachNumber(t *testing.T) {
	for _, next := range edges() {
		q := queue([]uint16{3, next, 4}, msg(0, 4), msg(2, next))
		for to := range full {
			r, told, err := order.Skip(q, 1, uint16(to))
			ok := false
			if above(uint16(to), next) < half {
				ok = err == api.OK && same(r, queue([]uint16{3, uint16(to), 4}, q.Wait...)) && len(told) == 0
			} else {
				ok = err == api.ErrArg && r.Next == nil && r.Wait == nil && told == nil
			}
			if !ok {
				t.Fatalf("Next %d, Skip to %d told %+v, %+v, %v", next, to, r, told, err)
			}
		}
	}
}

// O3: what waits is gone, is told, or goes on waiting, by its number: each number
// there is, held against each place at an edge to which a queue goes on.
func TestSkipEachThatWaits(t *testing.T) {
	for _, to := range edges() {
		for _, ahead := range []uint16{0, 1, half - 1} {
			for ssn := range full {
				m := msg(0, uint16(ssn))
				r, told, err := order.Skip(queue([]uint16{to - ahead}, m), 0, to)
				ok := err == api.OK
				switch d := above(uint16(ssn), to); {
				case d == 0:
					ok = ok && same(r, queue([]uint16{to + 1})) && slices.Equal(told, []frag.Message{m})
				case d < half:
					ok = ok && same(r, queue([]uint16{to}, m)) && len(told) == 0
				default:
					ok = ok && same(r, queue([]uint16{to})) && len(told) == 0
				}
				if !ok {
					t.Fatalf("Next %d, %d waits, Skip to %d told %+v, %+v, %v", to-ahead, ssn, to, r, told, err)
				}
			}
		}
	}
}

// O3: what Skip leaves out and tells, written out.
func TestSkip(t *testing.T) {
	for _, next := range edges() {
		wait := []frag.Message{msg(0, next+4), msg(1, next+1), msg(0, next+1), msg(0, next+6), msg(0, next+3), msg(1, next+4), msg(0, next+7)}
		q := queue([]uint16{next, next}, wait...)
		for i, c := range []struct {
			to   uint16
			told []int // places in wait
			next uint16
			left []int
		}{
			{0, nil, 0, []int{0, 1, 2, 3, 4, 5, 6}},
			{1, []int{2}, 2, []int{0, 1, 3, 4, 5, 6}},
			{2, nil, 2, []int{0, 1, 3, 4, 5, 6}},
			{3, []int{4, 0}, 5, []int{1, 3, 5, 6}},
			{4, []int{0}, 5, []int{1, 3, 5, 6}},
			{5, nil, 5, []int{1, 3, 5, 6}},
			{6, []int{3, 6}, 8, []int{1, 5}},
			{7, []int{6}, 8, []int{1, 5}},
			{8, nil, 8, []int{1, 5}},
			{half - 1, nil, half - 1, []int{1, 5}},
		} {
			r, told, err := wantSkip(t, q, 0, next+c.to)
			if err != api.OK || !slices.Equal(told, some(wait, c.told)) || !same(r, queue([]uint16{next + c.next, next}, some(wait, c.left)...)) {
				t.Errorf("%d: Next %d, Skip to %d told %+v, %+v, %v", i, next, next+c.to, r, told, err)
			}
		}
		for _, ahead := range []uint16{1, 2, half - 1, half} {
			if r, told, err := wantSkip(t, q, 0, next-ahead); err != api.ErrArg || r.Next != nil || told != nil {
				t.Errorf("Next %d, Skip back by %d told %+v, %+v, %v", next, ahead, r, told, err)
			}
		}
	}
}

// some are the messages at these places.
func some(l []frag.Message, places []int) []frag.Message {
	var s []frag.Message
	for _, i := range places {
		s = append(s, l[i])
	}
	return s
}

// O2, O3: of a queue that was made by hand, two of one stream and number may
// wait: the one that came first is told, each number once, and nothing else
// is changed.
func TestTwice(t *testing.T) {
	a, b := saying("a", 0, 6), saying("b", 0, 6)
	for _, wait := range [][]frag.Message{{a, b}, {b, a}} {
		q := queue([]uint16{5}, append(slices.Clone(wait), msg(0, 7))...)
		r, told, err := wantPut(t, q, msg(0, 5))
		if err != api.OK || !slices.Equal(told, []frag.Message{msg(0, 5), wait[0], msg(0, 7)}) || !same(r, queue([]uint16{8}, wait[1])) {
			t.Errorf("Put told %+v, %+v, %v", r, told, err)
		}
		r, told, err = wantSkip(t, q, 0, 6)
		if err != api.OK || !slices.Equal(told, []frag.Message{wait[0], msg(0, 7)}) || !same(r, queue([]uint16{8}, wait[1])) {
			t.Errorf("Skip told %+v, %+v, %v", r, told, err)
		}
	}
}

// anyQueue has messages near the next ones of a few streams, each number once, in
// any order.
func anyQueue(chance *rand.Rand) order.Queue {
	var q order.Queue
	for stream := range uint16(chance.Intn(4)) {
		next := edges()[chance.Intn(len(edges()))]
		q.Next = append(q.Next, next)
		for _, d := range chance.Perm(8)[:chance.Intn(9)] {
			q.Wait = append(q.Wait, msg(stream, next+1+uint16(d)))
		}
	}
	chance.Shuffle(len(q.Wait), func(i, j int) { q.Wait[i], q.Wait[j] = q.Wait[j], q.Wait[i] })
	return q
}

// near is a number at or near a stream's next one, or far from it.
func near(chance *rand.Rand, q order.Queue, stream int) uint16 {
	next := uint16(0)
	if stream >= 0 && stream < len(q.Next) {
		next = q.Next[stream]
	}
	switch chance.Intn(6) {
	case 0:
		return next
	case 1:
		return next + half - 3 + uint16(chance.Intn(7))
	case 2:
		return uint16(chance.Intn(full))
	}
	return next - 2 + uint16(chance.Intn(12))
}

func anyMessage(chance *rand.Rand, q order.Queue) frag.Message {
	stream := chance.Intn(4)
	m := saying("put", uint16(stream), near(chance, q, stream))
	m.Free = chance.Intn(8) == 0
	return m
}

// O2, O3: any queues, and anything done with them, against the words.
func TestAnything(t *testing.T) {
	chance := rand.New(rand.NewSource(3))
	rows := 0
	for range 60000 {
		q := anyQueue(chance)
		wantCounts(t, q)
		r, told, _ := wantPut(t, q, anyMessage(chance, q))
		if len(told) > 2 {
			rows++
		}
		wantCounts(t, r)
		stream := chance.Intn(5) - 1
		if r, told, _ = wantSkip(t, q, stream, near(chance, q, stream)); len(told) > 2 {
			rows++
		}
		wantCounts(t, r)
	}
	if rows < 1000 {
		t.Errorf("only %d rows of several messages", rows)
	}
}

// O2, O3: long rows of calls on one queue, against the words; what is refused
// changes nothing.
func TestRowsOfCalls(t *testing.T) {
	chance := rand.New(rand.NewSource(4))
	for _, from := range edges() {
		q := queue([]uint16{from, from, from})
		for range 3000 {
			var r order.Queue
			var err api.Errno
			if chance.Intn(10) == 0 {
				stream := chance.Intn(4)
				r, _, err = wantSkip(t, q, stream, near(chance, q, stream))
			} else {
				r, _, err = wantPut(t, q, anyMessage(chance, q))
			}
			if err == api.OK {
				q = r
			}
			wantCounts(t, q)
		}
	}
}

// O4: messages of many streams, in any order, some of them more than once, some
// Free: those of a stream are told in their order, each once, and as soon as all
// ahead of them came; Free ones at once.
func TestManyStreams(t *testing.T) {
	chance := rand.New(rand.NewSource(5))
	for range 300 {
		streams := 1 + chance.Intn(16)
		q, err := order.New(streams)
		if err != api.OK {
			t.Fatal(err)
		}
		var l []frag.Message
		for stream := range streams {
			l = append(l, row(uint16(stream), 0, chance.Intn(12))...)
			l = append(l, free(msg(uint16(stream), uint16(chance.Intn(12)))))
		}
		chance.Shuffle(len(l), func(i, j int) { l[i], l[j] = l[j], l[i] })
		came := make([][]frag.Message, streams)
		upTo := make([]int, streams)
		for _, m := range l {
			r, told, err := order.Put(q, m)
			if err != api.OK {
				t.Fatalf("%+v: %v", m, err)
			}
			if m.Free {
				if !slices.Equal(told, []frag.Message{m}) || !same(q, r) {
					t.Fatalf("%+v told %+v, %+v", m, r, told)
				}
				continue
			}
			came[m.Stream] = append(came[m.Stream], m)
			now := cameUpTo(came[m.Stream], 0)
			if !slices.Equal(told, row(m.Stream, uint16(upTo[m.Stream]), now-upTo[m.Stream])) {
				t.Fatalf("%+v told %+v, %d came, %d of them were told", m, told, now, upTo[m.Stream])
			}
			q, upTo[m.Stream] = r, now
			if _, told, err := order.Put(q, m); err != api.ErrThere || told != nil {
				t.Fatalf("%+v once more told %+v, %v", m, told, err)
			}
		}
		if len(q.Wait) != 0 || order.Bytes(q) != 0 {
			t.Fatalf("after all: %+v", q)
		}
	}
}

// O4: with Skips among them, too, messages are told in their order, each once;
// gaps are only where Skip made them, and what comes in other streams
// changes nothing.
func TestSkipsAmongPuts(t *testing.T) {
	chance := rand.New(rand.NewSource(6))
	for range 500 {
		from := edges()[chance.Intn(len(edges()))]
		q, alone := queue([]uint16{from, from}), queue([]uint16{from})
		next := from // what is told next, or what Skip went on with
		for range 120 {
			wantPut(t, q, msg(1, near(chance, q, 1)))
			if r, _, err := order.Put(q, msg(1, near(chance, q, 1))); err == api.OK {
				q = r
			}
			var r, rAlone order.Queue
			var told, toldAlone []frag.Message
			var err, errAlone api.Errno
			n := q.Next[0] + uint16(chance.Intn(9))
			if chance.Intn(6) == 0 {
				r, told, err = order.Skip(q, 0, n)
				rAlone, toldAlone, errAlone = order.Skip(alone, 0, n)
				next = n
			} else {
				r, told, err = order.Put(q, msg(0, n))
				rAlone, toldAlone, errAlone = order.Put(alone, msg(0, n))
			}
			if !slices.Equal(told, toldAlone) || err != errAlone {
				t.Fatalf("%+v, %d told %+v, %v; alone %+v, %v", q, n, told, err, toldAlone, errAlone)
			}
			if err != api.OK {
				continue
			}
			if !slices.Equal(told, row(0, next, len(told))) {
				t.Fatalf("%+v, %d told %+v, next was %d", q, n, told, next)
			}
			q, alone, next = r, rAlone, next+uint16(len(told))
			if q.Next[0] != next || alone.Next[0] != next || seek(q.Wait, 0, next) >= 0 {
				t.Fatalf("%+v, next is %d", q, next)
			}
		}
	}
}

// O4: numbers go round many times, and each message is told once.
func TestRoundAndRound(t *testing.T) {
	q, err := order.New(1)
	if err != api.OK {
		t.Fatal(err)
	}
	count := 0
	for i := 0; i < 3*full; i += 3 {
		n := uint16(i)
		for _, m := range []frag.Message{msg(0, n+2), msg(0, n+1), msg(0, n)} {
			r, told, err := order.Put(q, m)
			if err != api.OK || len(told) != 0 && !slices.Equal(told, row(0, n, 3)) {
				t.Fatalf("%d: told %+v, %v", i, told, err)
			}
			q, count = r, count+len(told)
		}
	}
	if count != 3*full || !same(q, queue([]uint16{0})) {
		t.Errorf("told %d, %+v", count, q)
	}
}

// anyWrong is a queue that no calls would make: with streams that it does not
// have, numbers of which the turn is over, or more than one of a number, and Free
// messages that wait.
func anyWrong(chance *rand.Rand) order.Queue {
	q := anyQueue(chance)
	for i := range q.Wait {
		m := &q.Wait[i]
		switch chance.Intn(6) {
		case 0:
			m.Stream = uint16(chance.Intn(5))
		case 1:
			m.Ssn = near(chance, q, int(m.Stream))
		case 2:
			m.Stream, m.Ssn = q.Wait[0].Stream, q.Wait[0].Ssn
		}
	}
	return q
}

// O2, O3: the words hold of queues, too, that no calls would make.
func TestMadeByHand(t *testing.T) {
	chance := rand.New(rand.NewSource(7))
	for range 60000 {
		q := anyWrong(chance)
		wantCounts(t, q)
		wantPut(t, q, anyMessage(chance, q))
		stream := chance.Intn(6) - 1
		wantSkip(t, q, stream, near(chance, q, stream))
	}
}

// askAll asks each call something.
func askAll(q order.Queue, m frag.Message, stream int, to uint16) []any {
	a, toldA, errA := order.Put(q, m)
	b, toldB, errB := order.Skip(q, stream, to)
	return []any{a, toldA, errA, b, toldB, errB, order.Waits(q, stream), order.Bytes(q)}
}

// P1: of queues that are not right comes some answer, the same each time, without
// a panic; what was handed in stays as it was.
func TestWrongOnes(t *testing.T) {
	chance := rand.New(rand.NewSource(8))
	for range 20000 {
		q := anyWrong(chance)
		for i := range q.Wait {
			q.Wait[i].Free = chance.Intn(4) == 0
		}
		before := apart(q)
		m, stream := anyMessage(chance, q), chance.Intn(6)-1
		to := near(chance, q, stream)
		a := askAll(q, m, stream, to)
		if !reflect.DeepEqual(a, askAll(q, m, stream, to)) || !same(q, before) {
			t.Fatalf("%+v, %+v, %d, %d: told %+v", before, m, stream, to, a)
		}
		// What came of it is taken, too.
		askAll(a[0].(order.Queue), m, stream, to)
		askAll(a[3].(order.Queue), m, stream, to)
	}
}

// P1: of lists that are long each call ends, and soon.
func TestLongLists(t *testing.T) {
	const long = 1 << 18
	for name, number := range map[string]func(i int) uint16{
		"rising":  func(i int) uint16 { return uint16(i) + 1 },
		"falling": func(i int) uint16 { return uint16(long - i) },
		"alike":   func(int) uint16 { return 1 },
		"mixed":   func(i int) uint16 { return uint16(i * 40503) },
		"none":    func(i int) uint16 { return uint16(i) | 1 },
	} {
		q := order.Queue{Next: make([]uint16, long)}
		for i := range long {
			if n := number(i); n != 0 {
				q.Wait = append(q.Wait, saying("x", 0, n))
			}
		}
		r, told, err := order.Put(q, msg(0, 0))
		if err != api.OK || len(told) == 0 || len(told)-1+len(r.Wait) != len(q.Wait) || int(r.Next[0]) != len(told)%full {
			t.Errorf("%s: Put told %d messages, %v, left %d, Next %d", name, len(told), err, len(r.Wait), r.Next[0])
		}
		if _, told, err = order.Skip(q, 0, 1); err != api.OK || len(told) == 0 {
			t.Errorf("%s: Skip told %d messages, %v", name, len(told), err)
		}
		if order.Waits(q, 0) != len(q.Wait) || order.Bytes(q) != len(q.Wait) {
			t.Errorf("%s: Waits %d, Bytes %d", name, order.Waits(q, 0), order.Bytes(q))
		}
		askAll(q, msg(9, 9), long-1, half)
	}
}

// O2: many messages may be put in ahead of their turn: as many as there may be
// numbers above what came (13).
func TestManyPuts(t *testing.T) {
	const count = 4000
	first := uint16(top - 1999)
	q := queue([]uint16{first})
	for i := range count {
		r, told, err := order.Put(q, msg(0, first+uint16(count-i)))
		if err != api.OK || len(told) != 0 || len(r.Wait) != i+1 {
			t.Fatalf("%d: told %+v, %v, %d wait", i, told, err, len(r.Wait))
		}
		q = r
	}
	if order.Waits(q, 0) != count {
		t.Errorf("%d wait", order.Waits(q, 0))
	}
	r, told, err := order.Put(q, msg(0, first))
	if err != api.OK || !slices.Equal(told, row(0, first, count+1)) || !same(r, queue([]uint16{first + count + 1})) {
		t.Errorf("told %d, %v, %+v", len(told), err, r)
	}
}

// roomy is a queue of which the lists have room behind them, with something in
// it; and the whole lists.
func roomy() (order.Queue, []uint16, []frag.Message) {
	next := []uint16{5, 9, 4, 3}
	wait := []frag.Message{msg(0, 7), msg(1, 11), msg(0, 6), msg(0, 9), msg(1, 12), msg(1, 10), msg(0, 8), msg(0, 10), msg(1, 13)}
	return order.Queue{Next: next[:2], Wait: wait[:5]}, next, wait
}

// doing are calls of which comes each kind of answer, of a roomy queue.
func doing() []func(order.Queue) (order.Queue, []frag.Message, api.Errno) {
	put := func(m frag.Message) func(order.Queue) (order.Queue, []frag.Message, api.Errno) {
		return func(q order.Queue) (order.Queue, []frag.Message, api.Errno) { return order.Put(q, m) }
	}
	skip := func(stream int, to uint16) func(order.Queue) (order.Queue, []frag.Message, api.Errno) {
		return func(q order.Queue) (order.Queue, []frag.Message, api.Errno) { return order.Skip(q, stream, to) }
	}
	return []func(order.Queue) (order.Queue, []frag.Message, api.Errno){
		put(msg(0, 5)), put(msg(0, 8)), put(msg(0, 6)), put(msg(0, 4)), put(free(msg(0, 6))), put(msg(1, 9)), put(msg(1, 10)), put(msg(2, 4)), put(msg(0, 20)),
		skip(0, 5), skip(0, 6), skip(0, 7), skip(0, 8), skip(0, 100), skip(0, 4), skip(1, 10), skip(1, 11), skip(2, 4), skip(-1, 0),
	}
}

// P3: whatever is done, nothing that was handed in, nor what lies behind it, is
// written into; and no later change of one queue, or of what was told, is seen in
// the other one.
func TestHandedInStays(t *testing.T) {
	for i, do := range doing() {
		q, next, wait := roomy()
		nextBefore, waitBefore := slices.Clone(next), slices.Clone(wait)
		r, told, _ := do(q)
		kept, toldKept := apart(r), slices.Clone(told)
		order.Waits(q, 0)
		order.Bytes(q)
		unwritten := func() bool { return slices.Equal(next, nextBefore) && slices.Equal(wait, waitBefore) }
		if !unwritten() {
			t.Errorf("%d made %+v and %+v of %+v and %+v", i, next, wait, nextBefore, waitBefore)
		}
		for j := range next {
			next[j] = 77
		}
		for j := range wait {
			wait[j] = frag.Message{Ssn: 44}
		}
		if !same(r, kept) || !slices.Equal(told, toldKept) {
			t.Errorf("%d: a change of what was handed in made %+v, %+v of %+v, %+v", i, r, told, kept, toldKept)
		}
		copy(next, nextBefore)
		copy(wait, waitBefore)
		for j := range told {
			told[j] = frag.Message{Ssn: 55}
		}
		if _ = append(told, msg(0, 66), msg(0, 67)); !unwritten() || !same(r, kept) {
			t.Errorf("%d: a change of what was told made %+v and %+v, %+v", i, next, wait, r)
		}
		for j := range r.Next {
			r.Next[j] = 88
		}
		for j := range r.Wait {
			r.Wait[j] = frag.Message{Ssn: 88}
		}
		if _, _ = append(r.Next, 99, 98), append(r.Wait, msg(0, 99), msg(0, 98)); !unwritten() {
			t.Errorf("%d: a change of what it made is seen: %+v and %+v", i, next, wait)
		}
	}
}

// P3: what lies behind a list's length is not read: neither a stream nor a
// message there is there.
func TestBehindTheLength(t *testing.T) {
	q, _, wait := roomy()
	if _, told, err := wantPut(t, q, msg(0, 5)); err != api.OK || len(told) != 3 {
		t.Errorf("told %+v, %v", told, err)
	}
	if _, _, err := wantPut(t, q, wait[6]); err != api.OK {
		t.Errorf("a message behind the list's length was taken for one that waits: %v", err)
	}
	if _, _, err := wantPut(t, q, msg(2, 4)); err != api.ErrStream {
		t.Errorf("a stream behind the list's length was taken for one that is there: %v", err)
	}
	if _, _, err := wantSkip(t, q, 3, 3); err != api.ErrStream {
		t.Errorf("a stream behind the list's length was taken for one that is there: %v", err)
	}
	wantCounts(t, q)
}

// P3: two calls of one queue do not see each other, though it was made by a call,
// and has room behind its lists.
func TestTwoOfOne(t *testing.T) {
	for count := range 12 {
		q, _, _ := roomy()
		q = apart(q)
		for i := range count {
			q, _ = fill(t, q, msg(0, 200+uint16(i)))
		}
		before := apart(q)
		for i, one := range doing() {
			for j, two := range doing() {
				r, told, _ := one(q)
				kept, toldKept := apart(r), slices.Clone(told)
				two(q)
				if two(r); !same(r, kept) || !slices.Equal(told, toldKept) || !same(q, before) {
					t.Errorf("%d more, %d, then %d: told %+v, %+v, which became %+v, %+v; %+v became %+v", count, i, j, kept, toldKept, r, told, before, q)
				}
			}
		}
	}
}

// P5: lists without elements are as good as none.
func TestEmptyLists(t *testing.T) {
	for _, next := range [][]uint16{nil, {}, make([]uint16, 0, 9), {5}} {
		for _, wait := range [][]frag.Message{nil, {}, make([]frag.Message, 0, 9)} {
			q := order.Queue{Next: next, Wait: wait}
			wantCounts(t, q)
			for _, m := range []frag.Message{{}, msg(0, 4), msg(0, 5), msg(0, 6), free(msg(0, 5)), msg(1, 0)} {
				wantPut(t, q, m)
				wantSkip(t, q, int(m.Stream), m.Ssn)
			}
		}
	}
}

// P4: what is told hangs on what waits, not on how it lies in the queue, but for
// the order of what goes on waiting.
func TestOrderOfWaitDoesNotMatter(t *testing.T) {
	chance := rand.New(rand.NewSource(9))
	for range 5000 {
		q := anyQueue(chance)
		mixed := apart(q)
		chance.Shuffle(len(mixed.Wait), func(i, j int) { mixed.Wait[i], mixed.Wait[j] = mixed.Wait[j], mixed.Wait[i] })
		m, stream := anyMessage(chance, q), chance.Intn(4)
		to := near(chance, q, stream)
		a, b := askAll(q, m, stream, to), askAll(mixed, m, stream, to)
		for _, i := range []int{1, 2, 4, 5, 6, 7} {
			if !reflect.DeepEqual(a[i], b[i]) {
				t.Fatalf("%+v and %+v, %+v, %d, %d: told %+v and %+v", q, mixed, m, stream, to, a[i], b[i])
			}
		}
	}
}

// P4: what is told hangs on nothing but what is handed in, whatever was asked
// before, or is asked at one time, of the same queue.
func TestAskedTogether(t *testing.T) {
	shared, _, _ := roomy()
	before := apart(shared)
	var asked sync.WaitGroup
	for from := range 8 {
		asked.Go(func() {
			chance := rand.New(rand.NewSource(int64(from)))
			for range 500 {
				m, stream := anyMessage(chance, before), chance.Intn(4)
				to := near(chance, before, stream)
				if !reflect.DeepEqual(askAll(shared, m, stream, to), askAll(before, m, stream, to)) {
					t.Errorf("%+v, %d, %d: told otherwise", m, stream, to)
				}
			}
		})
	}
	asked.Wait()
	if !same(shared, before) {
		t.Errorf("after all: %+v", shared)
	}
}
