package sent_test

import (
	"math"
	"math/rand"
	"reflect"
	"slices"
	"sync"
	"testing"

	"towline/api"
	"towline/sent"
)

const (
	half = uint32(1) << 31
	top  = ^uint32(0)
)

// edges are numbers at which the round begins, ends, or is half gone, or from
// which the pieces of a Sent reach over one of these.
func edges() []uint32 {
	return []uint32{0, 1, 9, 1000, half - 64, half - 2, half - 1, half, half + 1, top - 64, top - 63, top - 3, top - 2, top - 1, top}
}

// ahead is how far one must go on from a to come to b, in wide numbers, which do
// not go round here.
func ahead(a, b uint32) int64 {
	const round = int64(1) << 32
	return (int64(b) - int64(a) + round) % round
}

func apart(s sent.Sent) sent.Sent {
	return sent.Sent{Cum: s.Cum, L: append([]sent.Piece(nil), s.L...)}
}

func same(s, u sent.Sent) bool { return s.Cum == u.Cum && slices.Equal(s.L, u.L) }

func sameResult(r, q sent.Result) bool {
	return r.Bytes == q.Bytes && r.Out == q.Out && r.Moved == q.Moved && r.Fresh == q.Fresh &&
		slices.Equal(r.Done, q.Done) && slices.Equal(r.Fast, q.Fast) && slices.Equal(r.Took, q.Took)
}

// at are the numbers so far above cum.
func at(cum uint32, above ...uint32) []uint32 {
	var l []uint32
	for _, d := range above {
		l = append(l, cum+d)
	}
	return l
}

// row is a Sent with these pieces, which get the numbers above cum.
func row(cum uint32, pieces ...sent.Piece) sent.Sent {
	s := sent.Sent{Cum: cum}
	for i, p := range pieces {
		p.Tsn = cum + 1 + uint32(i)
		s.L = append(s.L, p)
	}
	return s
}

// many is a Sent with so many pieces like one.
func many(cum uint32, count int, p sent.Piece) sent.Sent {
	return row(cum, slices.Repeat([]sent.Piece{p}, count)...)
}

// Pieces of 100 bytes, sent once, on path 0 at 0.
var (
	out   = sent.Piece{Size: 100, State: 1, Times: 1}
	acked = sent.Piece{Size: 100, State: 2, Times: 1}
	lost  = sent.Piece{Size: 100, State: 3, Times: 1}
)

// missed is a piece with so many misses.
func missed(p sent.Piece, misses int) sent.Piece {
	p.Misses = misses
	return p
}

// isRight tells whether a Sent is right, by the chapter's words.
func isRight(s sent.Sent) bool {
	for i, p := range s.L {
		if ahead(s.Cum, p.Tsn) != int64(i)+1 || p.State < 1 || p.State > 3 || p.Size < 1 || p.Size > 1500 {
			return false
		}
	}
	return len(s.L) <= 64
}

func nextByTheWords(s sent.Sent) uint32 {
	return uint32((int64(s.Cum) + int64(len(s.L)) + 1) % (int64(1) << 32))
}

func putByTheWords(s sent.Sent, size, path, now int) (sent.Sent, uint32, api.Errno) {
	if size <= 0 || size >= 1501 {
		return sent.Sent{}, 0, api.ErrArg
	}
	if len(s.L) == 64 {
		return sent.Sent{}, 0, api.ErrFull
	}
	u, n := apart(s), nextByTheWords(s)
	u.L = append(u.L, sent.Piece{Tsn: n, Size: size, State: sent.Out, Times: 1, Path: path, At: now})
	return u, n, api.OK
}

func underByTheWords(s sent.Sent, path int) int {
	sizes := map[int]int{}
	all := 0
	for _, p := range s.L {
		if p.State == sent.Out {
			sizes[p.Path] += p.Size
			all += p.Size
		}
	}
	if path < 0 {
		return all
	}
	return sizes[path]
}

// mayTellByTheWords tells whether an Ack is of pieces that were sent.
func mayTellByTheWords(s sent.Sent, cum uint32, gaps [][2]uint16) bool {
	cums, tsns := map[uint32]int{}, map[uint32]int{}
	for d := range len(s.L) + 1 {
		cums[s.Cum+uint32(d)]++
	}
	for _, p := range s.L {
		tsns[p.Tsn]++
	}
	for _, gap := range gaps {
		if gap[0] == 0 || gap[1] < gap[0] || tsns[cum+uint32(gap[1])] == 0 {
			return false
		}
	}
	return cums[cum] > 0
}

// gapped are the numbers that are in gaps above cum.
func gapped(cum uint32, gaps [][2]uint16) map[uint32]int {
	m := map[uint32]int{}
	for _, gap := range gaps {
		for d := uint32(gap[0]); d <= uint32(gap[1]); d++ {
			m[cum+d]++
		}
	}
	return m
}

// ackByTheWords goes through the chapter's four steps, one after another.
func ackByTheWords(s sent.Sent, cum uint32, gaps [][2]uint16, now int) (sent.Sent, sent.Result, bool) {
	if !mayTellByTheWords(s, cum, gaps) {
		return apart(s), sent.Result{}, false
	}
	var r sent.Result
	var newly []sent.Piece
	u, in, lastNew := sent.Sent{Cum: cum}, gapped(cum, gaps), int64(0)
	for _, p := range s.L { // 1.
		if ahead(s.Cum, p.Tsn) > ahead(s.Cum, cum) {
			u.L = append(u.L, p)
			continue
		}
		r.Done, r.Moved = append(r.Done, p.Tsn), true
		if p.State != sent.Acked {
			newly = append(newly, p)
		}
	}
	for i, p := range u.L { // 2.
		switch {
		case in[p.Tsn] > 0 && p.State != sent.Acked:
			newly, lastNew = append(newly, p), ahead(cum, p.Tsn)
			u.L[i].State = sent.Acked
		case in[p.Tsn] == 0 && p.State == sent.Acked:
			u.L[i].State, u.L[i].Misses = sent.Out, 0
		}
	}
	r.Out, r.Fresh = underByTheWords(s, -1), len(newly) > 0 // 3.
	for _, p := range newly {
		r.Bytes += p.Size
		if p.Times == 1 && !(now < p.At) {
			r.Took = append(r.Took, now-p.At)
		}
	}
	for i, p := range u.L { // 4.
		if p.State == sent.Out && ahead(cum, p.Tsn) < lastNew {
			u.L[i].Misses++
			if u.L[i].Misses == 3 {
				u.L[i].State, u.L[i].Misses = sent.Lost, 0
				r.Fast = append(r.Fast, p.Tsn)
			}
		}
	}
	return u, r, true
}

func dropByTheWords(s sent.Sent, path int) (sent.Sent, []uint32) {
	u := apart(s)
	var l []uint32
	for i, p := range s.L {
		if p.State == sent.Out && (path < 0 || path == p.Path) {
			u.L[i].State, u.L[i].Misses = sent.Lost, 0
			l = append(l, p.Tsn)
		}
	}
	return u, l
}

func againByTheWords(s sent.Sent, tsn uint32, path, now int) (sent.Sent, bool) {
	u := apart(s)
	d := ahead(s.Cum, tsn)
	if d < 1 || d > int64(len(s.L)) || s.L[d-1].State != sent.Lost {
		return u, false
	}
	p := s.L[d-1]
	u.L[d-1] = sent.Piece{Tsn: tsn, Size: p.Size, State: sent.Out, Misses: p.Misses, Times: p.Times + 1, Path: path, At: now}
	return u, true
}

// stays fails if something that was handed in is another one than it was.
func stays(t *testing.T, call string, s, before sent.Sent) {
	t.Helper()
	if !same(s, before) {
		t.Fatalf("%s made %+v of what was handed in, %+v", call, s, before)
	}
}

// wantPut, wantAck, wantDrop and wantAgain hold what a call tells against the
// words, and hand it on.
func wantPut(t *testing.T, s sent.Sent, size, path, now int) (sent.Sent, uint32, api.Errno) {
	t.Helper()
	before := apart(s)
	u, n, err := sent.Put(s, size, path, now)
	if want, wantN, wantErr := putByTheWords(before, size, path, now); !same(u, want) || n != wantN || err != wantErr {
		t.Fatalf("Put(%+v, %d, %d, %d) told %+v, %d, %v", before, size, path, now, u, n, err)
	}
	stays(t, "Put", s, before)
	return u, n, err
}

func wantAck(t *testing.T, s sent.Sent, cum uint32, gaps [][2]uint16, now int) (sent.Sent, sent.Result, bool) {
	t.Helper()
	before, gapsBefore := apart(s), slices.Clone(gaps)
	u, r, ok := sent.Ack(s, cum, gaps, now)
	want, wantR, wantOk := ackByTheWords(before, cum, gaps, now)
	if !same(u, want) || !sameResult(r, wantR) || ok != wantOk {
		t.Fatalf("Ack(%+v, %d, %v, %d) told\n%+v, %+v, %t, want\n%+v, %+v, %t", before, cum, gaps, now, u, r, ok, want, wantR, wantOk)
	}
	stays(t, "Ack", s, before)
	if !slices.Equal(gaps, gapsBefore) {
		t.Fatalf("Ack made %v of gaps %v", gaps, gapsBefore)
	}
	return u, r, ok
}

func wantDrop(t *testing.T, s sent.Sent, path int) (sent.Sent, []uint32) {
	t.Helper()
	before := apart(s)
	u, l := sent.Drop(s, path)
	if want, wantL := dropByTheWords(before, path); !same(u, want) || !slices.Equal(l, wantL) {
		t.Fatalf("Drop(%+v, %d) told %+v, %v, want %+v, %v", before, path, u, l, want, wantL)
	}
	stays(t, "Drop", s, before)
	return u, l
}

func wantAgain(t *testing.T, s sent.Sent, tsn uint32, path, now int) (sent.Sent, bool) {
	t.Helper()
	before := apart(s)
	u, ok := sent.Again(s, tsn, path, now)
	if want, wantOk := againByTheWords(before, tsn, path, now); !same(u, want) || ok != wantOk {
		t.Fatalf("Again(%+v, %d, %d, %d) told %+v, %t, want %+v, %t", before, tsn, path, now, u, ok, want, wantOk)
	}
	stays(t, "Again", s, before)
	return u, ok
}

// wantTold holds what is told of a Sent against the words.
func wantTold(t *testing.T, s sent.Sent) {
	t.Helper()
	before := apart(s)
	for path := -2; path < 5; path++ {
		if sum := sent.Under(s, path); sum != underByTheWords(before, path) {
			t.Fatalf("Under(%+v, %d) told %d", before, path, sum)
		}
	}
	var losses []uint32
	for _, p := range before.L {
		if p.State == sent.Lost {
			losses = append(losses, p.Tsn)
		}
	}
	if l := sent.Losses(s); !slices.Equal(l, losses) {
		t.Fatalf("Losses(%+v) told %v", before, l)
	}
	if n := sent.Next(s); n != nextByTheWords(before) {
		t.Fatalf("Next(%+v) told %d", before, n)
	}
	stays(t, "what was asked", s, before)
}

// pick is one of a few numbers.
func pick(chance *rand.Rand, l ...int) int { return l[chance.Intn(len(l))] }

// anyRight is a Sent that is right, with few pieces or many.
func anyRight(chance *rand.Rand) sent.Sent {
	l := edges()
	count := pick(chance, 0, 1, 2, 3, 5, 8, 20, 63, 64)
	var pieces []sent.Piece
	for range count {
		pieces = append(pieces, sent.Piece{
			Size: pick(chance, 1, 2, 100, 999, 1500, 1+chance.Intn(1500)), State: 1 + chance.Intn(3),
			Misses: pick(chance, 0, 0, 1, 2, 2, 3, 4, -1), Times: pick(chance, 1, 1, 1, 2, 0, 7),
			Path: chance.Intn(5) - 1, At: pick(chance, 0, 49, 50, 51, 100),
		})
	}
	return row(l[chance.Intn(len(l))]+uint32(chance.Intn(3)), pieces...)
}

// anyGaps are some, in any order and over one another, of which most fit the
// pieces that are left.
func anyGaps(chance *rand.Rand, left int) [][2]uint16 {
	var gaps [][2]uint16
	for range pick(chance, 0, 1, 1, 2, 3, 8) {
		if left < 1 {
			break
		}
		first := 1 + chance.Intn(left)
		gaps = append(gaps, [2]uint16{uint16(first), uint16(first + chance.Intn(left-first+1))})
	}
	if chance.Intn(8) == 0 {
		gaps = append(gaps, [2]uint16{uint16(chance.Intn(left + 3)), uint16(chance.Intn(left + 3))})
		at := chance.Intn(len(gaps))
		gaps[at], gaps[len(gaps)-1] = gaps[len(gaps)-1], gaps[at]
	}
	return gaps
}

// The chapter's examples, and the constants.
func TestExamples(t *testing.T) {
	s := sent.New(10)
	for range 4 {
		s, _, _ = sent.Put(s, 100, 0, 0)
	}
	u, r, ok := sent.Ack(s, 10, [][2]uint16{{2, 3}}, 50)
	if !ok || r.Bytes != 300 || !slices.Equal(r.Done, []uint32{10}) || sent.Under(u, -1) != 100 {
		t.Errorf("Ack told %+v, %+v, %t", u, r, ok)
	}
	if _, r, ok = sent.Ack(u, 10, [][2]uint16{{2, 3}}, 50); !ok || r.Fresh {
		t.Errorf("Ack once more told %+v, %t", r, ok)
	}
	if sent.Out != 1 || sent.Acked != 2 || sent.Lost != 3 {
		t.Errorf("Out, Acked, Lost are %d, %d, %d", sent.Out, sent.Acked, sent.Lost)
	}
}

// X1: New, and Next of it.
func TestNew(t *testing.T) {
	for _, c := range []struct{ first, cum uint32 }{{10, 9}, {1, 0}, {0, top}, {2, 1}, {top, top - 1}, {half, half - 1}, {half + 1, half}} {
		s := sent.New(c.first)
		if s.Cum != c.cum || len(s.L) != 0 {
			t.Errorf("New(%d) told %+v", c.first, s)
		}
		if n := sent.Next(s); n != c.first {
			t.Errorf("New(%d): Next told %d", c.first, n)
		}
	}
}

// X1: Next, with each count of pieces, over each edge of the round.
func TestNext(t *testing.T) {
	for _, cum := range edges() {
		for count := range 65 {
			s := many(cum, count, out)
			if n := sent.Next(s); ahead(cum, n) != int64(count)+1 {
				t.Errorf("Cum %d, %d pieces: Next told %d", cum, count, n)
			}
		}
	}
}

// X1: Put, with each count of pieces: what it puts there, and that all others
// stay.
func TestPut(t *testing.T) {
	for _, first := range edges() {
		s := sent.New(first)
		var want []sent.Piece
		for i := range 64 {
			u, n, err := sent.Put(s, 1+i, i%5-1, 1000-i)
			want = append(want, sent.Piece{Tsn: first + uint32(i), Size: 1 + i, State: 1, Times: 1, Path: i%5 - 1, At: 1000 - i})
			if err != api.OK || n != first+uint32(i) || !same(u, sent.Sent{Cum: first - 1, L: want}) {
				t.Fatalf("from %d on, piece %d: Put told %+v, %d, %v", first, i, u, n, err)
			}
			if s = u; sent.Next(s) != n+1 {
				t.Fatalf("from %d on, piece %d: Next told %d", first, i, sent.Next(s))
			}
		}
		if u, n, err := sent.Put(s, 1, 0, 0); err != api.ErrFull || n != 0 || u.Cum != 0 || len(u.L) != 0 {
			t.Errorf("from %d on, 64 pieces: Put told %+v, %d, %v", first, u, n, err)
		}
	}
}

// X1: what Put takes and what it does not; of two errors ErrArg is told.
func TestPutErrors(t *testing.T) {
	for _, s := range []sent.Sent{
		{}, sent.New(5), many(7, 1, out), many(7, 63, out), many(top, 63, acked), many(7, 64, out), many(7, 64, acked), many(top-3, 64, lost),
	} {
		for _, c := range []struct {
			size int
			err  api.Errno
		}{
			{math.MinInt, api.ErrArg}, {-1500, api.ErrArg}, {-1, api.ErrArg}, {0, api.ErrArg}, {1, api.OK}, {2, api.OK}, {1000, api.OK},
			{1400, api.OK}, {1499, api.OK}, {1500, api.OK}, {1501, api.ErrArg}, {1 << 32, api.ErrArg}, {1<<32 + 1, api.ErrArg}, {math.MaxInt, api.ErrArg},
		} {
			want := c.err
			if want == api.OK && len(s.L) == 64 {
				want = api.ErrFull
			}
			u, n, err := sent.Put(s, c.size, 1, 9)
			if err != want {
				t.Errorf("%d pieces, size %d: Put told %v", len(s.L), c.size, err)
			}
			if err != api.OK && (n != 0 || u.Cum != 0 || len(u.L) != 0) {
				t.Errorf("%d pieces, size %d: Put told %+v, %d beside %v", len(s.L), c.size, u, n, err)
			}
			wantPut(t, s, c.size, 1, 9)
		}
	}
}

// X1: Put takes any path and any time, as these are.
func TestPutTakesAnyNumbers(t *testing.T) {
	for _, path := range []int{math.MinInt, -1, 0, 3, 4, math.MaxInt} {
		for _, now := range []int{math.MinInt, -1, 0, 1 << 40, math.MaxInt} {
			u, _, err := wantPut(t, sent.New(1), 5, path, now)
			if err != api.OK || u.L[0].Path != path || u.L[0].At != now {
				t.Errorf("Put(5, %d, %d) told %+v, %v", path, now, u, err)
			}
		}
	}
}

// X1: Under, of pieces of each State on several paths, written out.
func TestUnder(t *testing.T) {
	var s sent.Sent
	for _, c := range []struct{ size, state, path int }{
		{1, 1, 0}, {2, 1, 1}, {4, 1, 3}, {8, 1, 0}, {16, 1, -1}, {32, 1, -2}, {64, 2, 0}, {128, 2, 1}, {256, 3, 0}, {512, 3, 3}, {1024, 2, -1}, {1024, 1, 1},
	} {
		s.L = append(s.L, sent.Piece{Size: c.size, State: c.state, Times: 1, Path: c.path})
	}
	s = row(top-5, s.L...)
	for _, c := range []struct{ path, want int }{
		{-1, 1087}, {-2, 1087}, {math.MinInt, 1087}, {0, 9}, {1, 1026}, {2, 0}, {3, 4}, {4, 0}, {math.MaxInt, 0},
	} {
		if sum := sent.Under(s, c.path); sum != c.want {
			t.Errorf("Under(%d) told %d, want %d", c.path, sum, c.want)
		}
	}
	if sum := sent.Under(many(5, 64, sent.Piece{Size: 1500, State: 1, Path: 3}), 3); sum != 96000 {
		t.Errorf("all that may be: Under told %d", sum)
	}
	for _, p := range []sent.Piece{acked, lost} {
		if sum := sent.Under(many(5, 64, p), -1); sum != 0 {
			t.Errorf("State %d: Under told %d", p.State, sum)
		}
	}
}

// X2: what Ack refuses, each bound written out: of four pieces above cum.
func TestAckRefuses(t *testing.T) {
	for _, cum := range edges() {
		s := row(cum, out, acked, lost, missed(out, 2))
		for _, c := range []struct {
			name string
			cum  uint32
			gaps [][2]uint16
			want bool
		}{
			{"Cum", cum, nil, true},
			{"1 below", cum - 1, nil, false},
			{"64 below", cum - 64, nil, false},
			{"the first one", cum + 1, nil, true},
			{"the last one", cum + 4, nil, true},
			{"Next", cum + 5, nil, false},
			{"1 behind Next", cum + 6, nil, false},
			{"half the round away", cum + half, nil, false},
			{"half the round away, less 1", cum + half - 1, nil, false},
			{"a gap of the first one", cum, [][2]uint16{{1, 1}}, true},
			{"a gap of all", cum, [][2]uint16{{1, 4}}, true},
			{"a gap of the last one", cum, [][2]uint16{{4, 4}}, true},
			{"a gap from 0", cum, [][2]uint16{{0, 1}}, false},
			{"a gap from 0 to 0", cum, [][2]uint16{{0, 0}}, false},
			{"a gap that falls", cum, [][2]uint16{{2, 1}}, false},
			{"a gap that falls to 0", cum, [][2]uint16{{1, 0}}, false},
			{"a gap to 1 too far", cum, [][2]uint16{{4, 5}}, false},
			{"a gap at 1 too far", cum, [][2]uint16{{5, 5}}, false},
			{"a gap that falls from too far", cum, [][2]uint16{{5, 4}}, false},
			{"a gap to the farthest", cum, [][2]uint16{{1, 65535}}, false},
			{"a gap at the farthest", cum, [][2]uint16{{65535, 65535}}, false},
			{"a later cum, a gap to the last one", cum + 2, [][2]uint16{{1, 2}}, true},
			{"a later cum, a gap to 1 too far", cum + 2, [][2]uint16{{1, 3}}, false},
			{"the last one, and any gap", cum + 4, [][2]uint16{{1, 1}}, false},
			{"two gaps", cum, [][2]uint16{{1, 1}, {3, 4}}, true},
			{"two gaps, the first one wrong", cum, [][2]uint16{{0, 1}, {3, 4}}, false},
			{"two gaps, the last one wrong", cum, [][2]uint16{{1, 2}, {3, 5}}, false},
			{"three gaps, one between wrong", cum, [][2]uint16{{1, 1}, {3, 2}, {4, 4}}, false},
			{"a wrong cum, right gaps", cum + 5, [][2]uint16{{1, 1}}, false},
			{"a wrong cum below, right gaps", cum - 1, [][2]uint16{{2, 2}}, false},
		} {
			u, r, ok := wantAck(t, s, c.cum, c.gaps, 100)
			if ok != c.want {
				t.Errorf("Cum %d, %s: Ack told %t", cum, c.name, ok)
			}
			if !ok && (!same(u, s) || !sameResult(r, sent.Result{})) {
				t.Errorf("Cum %d, %s: Ack told %+v, %+v", cum, c.name, u, r)
			}
		}
	}
}

// X2: every cum and every gap near their bounds, of each count of pieces.
func TestAckBounds(t *testing.T) {
	for _, cum := range []uint32{9, top - 2, half - 2} {
		for _, count := range []int{0, 1, 2, 5, 63, 64} {
			s := many(cum, count, out)
			for d := -3; d < count+4; d++ {
				if d > 4 && d < count-4 {
					continue
				}
				n := cum + uint32(d)
				wantAck(t, s, n, nil, 5)
				left := count - d
				for _, first := range []int{0, 1, 2, left - 1, left, left + 1} {
					for _, second := range []int{0, 1, 2, left - 1, left, left + 1} {
						wantAck(t, s, n, [][2]uint16{{uint16(first), uint16(second)}}, 5)
					}
				}
			}
		}
	}
}

// X2, first step: pieces up to cum are gone, whatever they were, and those are
// newly told that were not Acked.
func TestAckMoves(t *testing.T) {
	s := row(top-1, out, acked, lost, missed(out, 2), missed(lost, 1), acked)
	for i, c := range []struct {
		bytes int
		fresh bool
		took  []int
		left  []sent.Piece
	}{
		{0, false, nil, []sent.Piece{out, out, lost, missed(out, 2), missed(lost, 1), out}},
		{100, true, []int{70}, []sent.Piece{out, lost, missed(out, 2), missed(lost, 1), out}},
		{100, true, []int{70}, []sent.Piece{lost, missed(out, 2), missed(lost, 1), out}},
		{200, true, []int{70, 70}, []sent.Piece{missed(out, 2), missed(lost, 1), out}},
		{300, true, []int{70, 70, 70}, []sent.Piece{missed(lost, 1), out}},
		{400, true, []int{70, 70, 70, 70}, []sent.Piece{out}},
		{400, true, []int{70, 70, 70, 70}, nil},
	} {
		u, r, ok := sent.Ack(s, top-1+uint32(i), nil, 70)
		want := sent.Result{Bytes: c.bytes, Out: 200, Moved: i > 0, Fresh: c.fresh, Done: at(top-1, []uint32{1, 2, 3, 4, 5, 6}[:i]...), Took: c.took}
		left := row(top-1+uint32(i), c.left...)
		if !ok || !same(u, left) || !sameResult(r, want) {
			t.Errorf("%d gone: Ack told\n%+v, %+v, %t, want\n%+v, %+v", i, u, r, ok, left, want)
		}
	}
}

// X2: what was Acked is gone without being newly told: Moved, and not Fresh.
func TestAckMovesAcked(t *testing.T) {
	u, r, ok := sent.Ack(row(4, acked, acked, out), 6, nil, 9)
	if !ok || !same(u, row(6, out)) || !sameResult(r, sent.Result{Out: 100, Moved: true, Done: []uint32{5, 6}}) {
		t.Errorf("Ack told %+v, %+v, %t", u, r, ok)
	}
}

// X2, second step: what becomes of a piece of each State and with each number of
// misses, in a gap and in none; all else of it stays.
func TestAckGaps(t *testing.T) {
	for state := 1; state <= 3; state++ {
		for _, misses := range []int{0, 1, 2, 3, 7, -1} {
			p := sent.Piece{Size: 77, State: state, Misses: misses, Times: 2, Path: 3, At: 12}
			s := row(9, p)
			u, r, ok := sent.Ack(s, 9, [][2]uint16{{1, 1}}, 50)
			want, wantR := p, sent.Result{}
			want.State = sent.Acked
			if state == sent.Out {
				wantR.Out = 77
			}
			if state != sent.Acked {
				wantR.Bytes, wantR.Fresh = 77, true
			}
			if !ok || !same(u, row(9, want)) || !sameResult(r, wantR) {
				t.Errorf("%+v in a gap: Ack told %+v, %+v, %t", p, u, r, ok)
			}
			u, r, ok = sent.Ack(s, 9, nil, 50)
			want, wantR.Bytes, wantR.Fresh = p, 0, false
			if state == sent.Acked {
				want.State, want.Misses = sent.Out, 0
			}
			if !ok || !same(u, row(9, want)) || !sameResult(r, wantR) {
				t.Errorf("%+v in no gap: Ack told %+v, %+v, %t", p, u, r, ok)
			}
		}
	}
}

// X2: gaps may come in any order, over one another, and more than once: a piece
// is told once. They count from the new cum on.
func TestAckManyGaps(t *testing.T) {
	s := many(top-3, 8, out)
	want, wantR, _ := sent.Ack(s, top-2, [][2]uint16{{2, 3}, {5, 7}}, 0)
	states := []int{1, 2, 2, 1, 2, 2, 2}
	for i, p := range want.L {
		if p.State != states[i] {
			t.Errorf("piece %d: State %d", i, p.State)
		}
	}
	if wantR.Bytes != 600 || len(wantR.Took) != 6 {
		t.Errorf("Ack told %+v", wantR)
	}
	for _, gaps := range [][][2]uint16{
		{{5, 7}, {2, 3}}, {{2, 2}, {3, 3}, {5, 5}, {6, 6}, {7, 7}}, {{7, 7}, {6, 6}, {5, 5}, {3, 3}, {2, 2}},
		{{2, 3}, {2, 3}, {5, 7}, {5, 7}}, {{5, 6}, {6, 7}, {2, 3}, {3, 3}, {5, 7}, {2, 2}},
	} {
		u, r, ok := wantAck(t, s, top-2, gaps, 0)
		if !ok || !same(u, want) || !sameResult(r, wantR) {
			t.Errorf("%v: Ack told %+v, %+v, %t", gaps, u, r, ok)
		}
	}
	u, r, _ := wantAck(t, s, top-3, slices.Repeat([][2]uint16{{1, 8}, {3, 4}}, 500), 0)
	if r.Bytes != 800 || sent.Under(u, -1) != 0 || len(r.Took) != 8 {
		t.Errorf("a thousand gaps: Ack told %+v", r)
	}
}

// X2, third step: Out is what was under way ahead of all, on any path.
func TestAckOut(t *testing.T) {
	var pieces []sent.Piece
	for i := range 12 {
		pieces = append(pieces, sent.Piece{Size: 1 << (i % 11), State: 1 + i%3, Times: 1, Path: i % 5})
	}
	s := row(40, pieces...)
	out := sent.Under(s, -1)
	for d := range uint32(13) {
		if _, r, ok := wantAck(t, s, 40+d, nil, 0); !ok || r.Out != out {
			t.Errorf("%d gone: Ack told Out %d", d, r.Out)
		}
	}
	if _, r, _ := wantAck(t, s, 40, [][2]uint16{{1, 12}}, 0); r.Out != out {
		t.Errorf("all in gaps: Ack told Out %d", r.Out)
	}
}

// X2, third step: Took, of what was sent once and no later than now: those that
// are gone, then those in gaps.
func TestAckTook(t *testing.T) {
	piece := func(state, times, at int) sent.Piece {
		return sent.Piece{Size: 5, State: state, Times: times, At: at}
	}
	s := row(2, piece(1, 1, 10), piece(3, 1, 20), piece(2, 1, 30), piece(1, 2, 40), piece(1, 1, 100), piece(1, 1, 101), piece(1, 1, 50), piece(2, 1, 60), piece(3, 1, 70), piece(1, 0, 80), piece(1, -1, 80), piece(1, 1, -5))
	for _, c := range []struct {
		cum  uint32
		gaps [][2]uint16
		now  int
		want []int
	}{
		{14, nil, 100, []int{90, 80, 0, 50, 30, 105}},
		{2, [][2]uint16{{1, 12}}, 100, []int{90, 80, 0, 50, 30, 105}},
		{8, [][2]uint16{{6, 6}, {1, 5}}, 100, []int{90, 80, 0, 50, 30, 105}},
		{8, [][2]uint16{{6, 6}, {1, 1}}, 101, []int{91, 81, 1, 0, 51, 106}},
		{14, nil, 99, []int{89, 79, 49, 29, 104}},
		{14, nil, 9, []int{14}},
		{14, nil, -6, nil},
		{14, nil, -5, []int{0}},
		{2, [][2]uint16{{3, 4}}, 100, nil},
	} {
		if _, r, ok := wantAck(t, s, c.cum, c.gaps, c.now); !ok || !slices.Equal(r.Took, c.want) {
			t.Errorf("Ack(%d, %v, %d): Took %v, want %v", c.cum, c.gaps, c.now, r.Took, c.want)
		}
	}
}

// X2, fourth step: what is missed, and what is lost by that, written out.
func TestAckMisses(t *testing.T) {
	for _, c := range []struct {
		name   string
		pieces []sent.Piece
		cum    uint32
		gaps   [][2]uint16
		left   []sent.Piece
		fast   []uint32
	}{
		{"once", []sent.Piece{out, out}, 9, [][2]uint16{{2, 2}}, []sent.Piece{missed(out, 1), acked}, nil},
		{"twice", []sent.Piece{missed(out, 1), out}, 9, [][2]uint16{{2, 2}}, []sent.Piece{missed(out, 2), acked}, nil},
		{"three times", []sent.Piece{missed(out, 2), out}, 9, [][2]uint16{{2, 2}}, []sent.Piece{lost, acked}, []uint32{10}},
		{"more often", []sent.Piece{missed(out, 3), out}, 9, [][2]uint16{{2, 2}}, []sent.Piece{missed(out, 4), acked}, nil},
		{"from below 0 on", []sent.Piece{missed(out, -1), out}, 9, [][2]uint16{{2, 2}}, []sent.Piece{out, acked}, nil},
		{"most often", []sent.Piece{missed(out, math.MaxInt), out}, 9, [][2]uint16{{2, 2}}, []sent.Piece{missed(out, math.MinInt), acked}, nil},
		{"what is behind", []sent.Piece{out, out, missed(out, 2)}, 9, [][2]uint16{{2, 2}}, []sent.Piece{missed(out, 1), acked, missed(out, 2)}, nil},
		{"none ahead", []sent.Piece{out, missed(out, 2)}, 9, [][2]uint16{{1, 1}}, []sent.Piece{acked, missed(out, 2)}, nil},
		{"a gap of what was Acked", []sent.Piece{missed(out, 2), acked}, 9, [][2]uint16{{2, 2}}, []sent.Piece{missed(out, 2), acked}, nil},
		{"behind the last new one, ahead of one that was Acked", []sent.Piece{missed(out, 1), out, missed(out, 2), acked}, 9, [][2]uint16{{2, 2}, {4, 4}}, []sent.Piece{missed(out, 2), acked, missed(out, 2), acked}, nil},
		{"only those gone are new", []sent.Piece{out, missed(out, 2), acked}, 10, [][2]uint16{{2, 2}}, []sent.Piece{missed(out, 2), acked}, nil},
		{"only those gone are new, no gap", []sent.Piece{out, missed(out, 2), out}, 10, nil, []sent.Piece{missed(out, 2), out}, nil},
		{"some gone, one in a gap", []sent.Piece{out, missed(out, 2), out, out}, 10, [][2]uint16{{2, 2}}, []sent.Piece{lost, acked, out}, []uint32{11}},
		{"what was Lost is not missed", []sent.Piece{lost, missed(lost, 2), out}, 9, [][2]uint16{{3, 3}}, []sent.Piece{lost, missed(lost, 2), acked}, nil},
		{"what is Acked is not missed", []sent.Piece{missed(acked, 2), out}, 9, [][2]uint16{{1, 2}}, []sent.Piece{missed(acked, 2), acked}, nil},
		{"what was Acked, and is so no more, is missed once", []sent.Piece{missed(acked, 2), out}, 9, [][2]uint16{{2, 2}}, []sent.Piece{missed(out, 1), acked}, nil},
		{"what is newly Acked is not missed", []sent.Piece{missed(out, 2), missed(out, 2), out}, 9, [][2]uint16{{1, 1}, {3, 3}}, []sent.Piece{missed(acked, 2), lost, acked}, []uint32{11}},
		{"what was Lost is new in a gap", []sent.Piece{missed(out, 2), lost}, 9, [][2]uint16{{2, 2}}, []sent.Piece{lost, acked}, []uint32{10}},
		{"several", []sent.Piece{missed(out, 2), missed(out, 1), missed(out, 2), out, missed(out, 2)}, 9, [][2]uint16{{4, 4}}, []sent.Piece{lost, missed(out, 2), lost, acked, missed(out, 2)}, []uint32{10, 12}},
		{"the last new one, not the first", []sent.Piece{missed(out, 2), out, missed(out, 2), out}, 9, [][2]uint16{{2, 2}, {4, 4}}, []sent.Piece{lost, acked, lost, acked}, []uint32{10, 12}},
		{"the last new one, gaps falling", []sent.Piece{missed(out, 2), out, missed(out, 2), out}, 9, [][2]uint16{{4, 4}, {2, 2}}, []sent.Piece{lost, acked, lost, acked}, []uint32{10, 12}},
	} {
		u, r, ok := wantAck(t, row(9, c.pieces...), c.cum, c.gaps, 0)
		if want := row(c.cum, c.left...); !ok || !same(u, want) || !slices.Equal(r.Fast, c.fast) {
			t.Errorf("%s: Ack told\n%+v, Fast %v, want\n%+v, Fast %v", c.name, u, r.Fast, want, c.fast)
		}
	}
}

// X2: on whatever path a piece is, and however often it was sent, it is missed.
func TestMissedOnAnyPath(t *testing.T) {
	for _, path := range []int{-1, 0, 1, 3} {
		for _, times := range []int{0, 1, 2, 9} {
			p := sent.Piece{Size: 9, State: 1, Misses: 2, Times: times, Path: path, At: 4}
			q := sent.Piece{Size: 9, State: 3, Times: times, Path: path, At: 4}
			u, r, _ := wantAck(t, row(9, p, out), 9, [][2]uint16{{2, 2}}, 0)
			if !same(u, row(9, q, acked)) || !slices.Equal(r.Fast, []uint32{10}) {
				t.Errorf("%+v: Ack told %+v, %+v", p, u, r)
			}
		}
	}
}

// kinds are pieces of all kinds that Ack tells apart.
func kinds() []sent.Piece {
	var l []sent.Piece
	for state := 1; state <= 3; state++ {
		for _, misses := range []int{0, 2} {
			for times := 1; times <= 2; times++ {
				l = append(l, sent.Piece{Size: 10 * (len(l) + 1), State: state, Misses: misses, Times: times, Path: times, At: 7 * len(l)})
			}
		}
	}
	return l
}

// gapsOf are the rows in a set of distances, bit by bit.
func gapsOf(set int) [][2]uint16 {
	var gaps [][2]uint16
	for d := uint16(1); set>>(d-1) != 0; d++ {
		switch {
		case set>>(d-1)&1 == 0:
		case len(gaps) > 0 && gaps[len(gaps)-1][1] == d-1:
			gaps[len(gaps)-1][1] = d
		default:
			gaps = append(gaps, [2]uint16{d, d})
		}
	}
	return gaps
}

// wantAllAcks holds against the words what is told to a Sent of each cum and
// each set of what came above it.
func wantAllAcks(t *testing.T, s sent.Sent) {
	t.Helper()
	for gone := range len(s.L) + 1 {
		for set := range 1 << (len(s.L) - gone) {
			wantAck(t, s, s.Cum+uint32(gone), gapsOf(set), 40)
		}
	}
}

// X2, X3: all Sents of up to three pieces of all kinds, and all that may be told
// of them, against the words.
func TestAllOfThree(t *testing.T) {
	all := kinds()
	for count := range 4 {
		pieces := make([]sent.Piece, count)
		for code := range int(math.Pow(float64(len(all)), float64(count))) {
			for i := range pieces {
				pieces[i], code = all[code%len(all)], code/len(all)
			}
			s := row(top-1, pieces...)
			wantTold(t, s)
			wantAllAcks(t, s)
			for path := -1; path < 4; path++ {
				wantDrop(t, s, path)
			}
			for d := range uint32(6) {
				wantAgain(t, s, s.Cum-1+d, 3, 99)
			}
		}
	}
}

// X2: all Sents of five pieces that are fresh, missed, Acked or Lost, and all
// that may be told of them, against the words.
func TestAllOfFive(t *testing.T) {
	all := []sent.Piece{out, missed(out, 2), acked, lost}
	pieces := make([]sent.Piece, 5)
	for code := range 1 << 10 {
		for i := range pieces {
			pieces[i] = all[code>>(2*i)&3]
		}
		wantAllAcks(t, row(half-3, pieces...))
	}
}

// X1 to X3: any Sents, and any calls, against the words.
func TestAnything(t *testing.T) {
	chance := rand.New(rand.NewSource(1))
	refused := 0
	for range 20000 {
		s := anyRight(chance)
		if !isRight(s) {
			t.Fatalf("%+v is not right", s)
		}
		wantTold(t, s)
		d := pick(chance, 0, 0, 1, chance.Intn(len(s.L)+1), chance.Intn(len(s.L)+3)-1)
		u, _, ok := wantAck(t, s, s.Cum+uint32(d), anyGaps(chance, max(len(s.L)-d, 0)), pick(chance, 0, 49, 50, 51, 200))
		if !ok {
			refused++
		}
		wantPut(t, u, pick(chance, 0, 1, 700, 1500, 1501), chance.Intn(5)-1, chance.Intn(100))
		u, _ = wantDrop(t, u, chance.Intn(6)-1)
		wantAgain(t, u, s.Cum+uint32(chance.Intn(len(s.L)+3))-1, chance.Intn(5)-1, chance.Intn(100))
	}
	if refused < 1000 || refused > 8000 {
		t.Errorf("%d were refused", refused)
	}
}

// X3: Drop, written out: all that is Out on a path, or on any, and its misses.
func TestDrop(t *testing.T) {
	on := func(p sent.Piece, path int) sent.Piece {
		p.Path = path
		return p
	}
	s := row(top-2, on(out, 0), on(missed(out, 2), 1), on(acked, 1), on(missed(acked, 2), 0), on(lost, 1), on(missed(lost, 2), 1), on(missed(out, 1), 1), on(out, -1))
	for _, c := range []struct {
		path int
		told []uint32
	}{
		{0, []uint32{top - 1}}, {1, []uint32{top, 4}}, {2, nil}, {3, nil}, {math.MaxInt, nil},
		{-1, []uint32{top - 1, top, 4, 5}}, {-2, []uint32{top - 1, top, 4, 5}}, {math.MinInt, []uint32{top - 1, top, 4, 5}},
	} {
		u, l := wantDrop(t, s, c.path)
		want := apart(s)
		for i, p := range want.L {
			if slices.Contains(c.told, p.Tsn) {
				want.L[i] = sent.Piece{Tsn: p.Tsn, Size: 100, State: 3, Times: 1, Path: p.Path}
			}
		}
		if !same(u, want) || !slices.Equal(l, c.told) {
			t.Errorf("Drop(%d) told %+v, %v", c.path, u, l)
		}
		if sent.Under(u, c.path) != 0 {
			t.Errorf("Drop(%d) left %d bytes under way", c.path, sent.Under(u, c.path))
		}
	}
}

// X3: Losses are the numbers of all that is Lost, in order.
func TestLosses(t *testing.T) {
	for _, cum := range edges() {
		s := row(cum, out, lost, acked, lost, missed(lost, 2), missed(out, 2), lost)
		if l := sent.Losses(s); !slices.Equal(l, at(cum, 2, 4, 5, 7)) {
			t.Errorf("Cum %d: Losses told %v", cum, l)
		}
		if l := sent.Losses(many(cum, 64, lost)); len(l) != 64 || l[0] != cum+1 || l[63] != cum+64 {
			t.Errorf("Cum %d, 64 pieces: Losses told %v", cum, l)
		}
	}
	for _, s := range []sent.Sent{{}, sent.New(5), row(5, out, acked)} {
		if l := sent.Losses(s); len(l) != 0 {
			t.Errorf("%+v: Losses told %v", s, l)
		}
	}
}

// X3: Again, of each piece and of numbers around them, written out.
func TestAgain(t *testing.T) {
	for _, cum := range edges() {
		s := row(cum, missed(lost, 2), out, acked, sent.Piece{Size: 9, State: 3, Times: 5, Path: 1, At: 3}, lost)
		for _, c := range []struct {
			name string
			tsn  uint32
			want sent.Piece
		}{
			{"the first one", cum + 1, sent.Piece{Size: 100, State: 1, Misses: 2, Times: 2, Path: 3, At: 77}},
			{"one between", cum + 4, sent.Piece{Size: 9, State: 1, Times: 6, Path: 3, At: 77}},
			{"the last one", cum + 5, sent.Piece{Size: 100, State: 1, Times: 2, Path: 3, At: 77}},
			{"one that is Out", cum + 2, sent.Piece{}},
			{"one that is Acked", cum + 3, sent.Piece{}},
			{"Cum", cum, sent.Piece{}},
			{"1 below Cum", cum - 1, sent.Piece{}},
			{"Next", cum + 6, sent.Piece{}},
			{"half the round away", cum + half, sent.Piece{}},
		} {
			want, there := apart(s), c.want.State != 0
			if there {
				c.want.Tsn = c.tsn
				want.L[c.tsn-cum-1] = c.want
			}
			if u, ok := wantAgain(t, s, c.tsn, 3, 77); ok != there || !same(u, want) {
				t.Errorf("Cum %d, Again of %s told %+v, %t", cum, c.name, u, ok)
			}
		}
	}
	if u, ok := sent.Again(sent.Sent{}, 1, 0, 0); ok || !same(u, sent.Sent{}) {
		t.Errorf("Again of nothing told %+v, %t", u, ok)
	}
}

// X3: what is sent again is sent again but once, and can be lost again.
func TestAgainAndAgain(t *testing.T) {
	s := row(9, lost, out)
	for times := 2; times < 9; times++ {
		u, ok := sent.Again(s, 10, times, 10*times)
		if _, more := sent.Again(u, 10, 0, 0); !ok || more || !same(u, row(9, sent.Piece{Size: 100, State: 1, Times: times, Path: times, At: 10 * times}, out)) {
			t.Fatalf("Again told %+v, %t, then %t", u, ok, more)
		}
		var l []uint32
		if s, l = sent.Drop(u, times); !slices.Equal(l, []uint32{10}) || !slices.Equal(sent.Losses(s), l) {
			t.Fatalf("Drop told %+v, %v", s, l)
		}
	}
}

// teller makes a row of calls, and keeps what must be so after each of them.
type teller struct {
	chance    *rand.Rand
	s         sent.Sent
	first     uint32
	put, done int // how many were put, how many are gone
	fast      int
}

// step makes one call, and tells whether it was Put that was done.
func (l *teller) step(t *testing.T) bool {
	t.Helper()
	path, now := l.chance.Intn(4), l.chance.Intn(200)
	switch l.chance.Intn(8) {
	case 0, 1, 2:
		u, n, err := wantPut(t, l.s, 1+l.chance.Intn(1500), path, now)
		if err != api.OK {
			return false
		}
		if n != l.first+uint32(l.put) {
			t.Fatalf("Put %d told %d, the first one was %d", l.put, n, l.first)
		}
		l.s = u
		l.put++
		return true
	case 3:
		l.s, _ = wantDrop(t, l.s, path-1)
	case 4, 5:
		for _, n := range sent.Losses(l.s) {
			u, ok := wantAgain(t, l.s, n, path, now)
			if l.s = u; !ok {
				t.Fatalf("Again of %d, a loss, told %t", n, ok)
			}
		}
	default:
		l.ack(t, now)
	}
	return false
}

func (l *teller) ack(t *testing.T, now int) {
	t.Helper()
	d := pick(l.chance, 0, 0, 1, 2, l.chance.Intn(len(l.s.L)+2))
	u, r, _ := wantAck(t, l.s, l.s.Cum+uint32(d), anyGaps(l.chance, max(len(l.s.L)-d, 0)), now)
	l.s = u
	l.fast += len(r.Fast)
	for _, n := range r.Done {
		if n != l.first+uint32(l.done) {
			t.Fatalf("done is %d, the first one was %d, and %d ahead of it", n, l.first, l.done)
		}
		l.done++
	}
}

// X4: after any calls: Under is never more than all Sizes; what is gone is told
// once, and does not come back; Next changes by Put alone; a Sent that is right
// stays so.
func TestStories(t *testing.T) {
	fast := 0
	for seed, first := range edges() {
		l := teller{chance: rand.New(rand.NewSource(int64(seed))), s: sent.New(first), first: first}
		for range 3000 {
			next := sent.Next(l.s)
			if l.step(t) {
				next++
			}
			sizes := 0
			for _, p := range l.s.L {
				sizes += p.Size
			}
			if sent.Under(l.s, -1) > sizes || sent.Next(l.s) != next || !isRight(l.s) {
				t.Fatalf("from %d on: came to %+v, Next was %d", first, l.s, next)
			}
			if len(l.s.L) != l.put-l.done || l.s.Cum != first+uint32(l.done)-1 {
				t.Fatalf("from %d on: %d were put, %d are gone: came to %+v", first, l.put, l.done, l.s)
			}
		}
		if l.put < 100 || l.done < 50 {
			t.Errorf("from %d on: %d were put, %d are gone", first, l.put, l.done)
		}
		fast += l.fast
	}
	if fast < 20 {
		t.Errorf("%d were Fast", fast)
	}
}

// X4: what is acked for good is not told again by what comes late.
func TestLateAcks(t *testing.T) {
	s := many(top-2, 6, out)
	s, _, _ = sent.Ack(s, top, [][2]uint16{{2, 2}}, 0)
	for _, cum := range []uint32{top - 2, top - 1} {
		if u, r, ok := sent.Ack(s, cum, [][2]uint16{{1, 1}}, 0); ok || !same(u, s) || !sameResult(r, sent.Result{}) {
			t.Errorf("late, %d: Ack told %+v, %+v, %t", cum, u, r, ok)
		}
	}
	for range 3 {
		u, r, ok := sent.Ack(s, top, [][2]uint16{{2, 2}}, 0)
		if !ok || !same(u, s) || r.Fresh || r.Moved || r.Bytes != 0 || len(r.Done)+len(r.Took)+len(r.Fast) != 0 {
			t.Errorf("once more: Ack told %+v, %+v, %t", u, r, ok)
		}
	}
	if u, ok := sent.Again(s, top, 0, 0); ok || !same(u, s) {
		t.Errorf("Again of what is gone told %+v, %t", u, ok)
	}
}

// P6: numbers go round beyond an int's bounds.
func TestGoesRound(t *testing.T) {
	s := row(9, sent.Piece{Size: 5, State: 1, Times: 1, At: math.MinInt}, sent.Piece{Size: 5, State: 1, Times: 1, At: math.MaxInt})
	if _, r, _ := wantAck(t, s, 11, nil, math.MaxInt); !slices.Equal(r.Took, []int{-1, 0}) {
		t.Errorf("Took %v", r.Took)
	}
	if _, r, _ := wantAck(t, s, 11, nil, math.MinInt); !slices.Equal(r.Took, []int{0}) {
		t.Errorf("Took %v", r.Took)
	}
	u, ok := sent.Again(row(9, sent.Piece{Size: 5, State: 3, Times: math.MaxInt}), 10, math.MinInt, math.MaxInt)
	if !ok || u.L[0].Times != math.MinInt || u.L[0].Path != math.MinInt || u.L[0].At != math.MaxInt {
		t.Errorf("Again told %+v, %t", u, ok)
	}
}

// anyWrong is a Sent that somebody filled in without care.
func anyWrong(chance *rand.Rand) sent.Sent {
	wild := func() int { return int(chance.Uint64()) >> chance.Intn(64) }
	s := sent.Sent{Cum: chance.Uint32()}
	for i := range pick(chance, 0, 1, 2, 5, 63, 64, 65, 66, 130) {
		p := sent.Piece{Tsn: chance.Uint32(), Size: wild(), State: wild(), Misses: wild(), Times: wild(), Path: wild(), At: wild()}
		if chance.Intn(2) == 0 {
			p.Tsn = s.Cum + uint32(i) + uint32(chance.Intn(3))
		}
		if chance.Intn(2) == 0 {
			p.State, p.Path = chance.Intn(5), chance.Intn(3)-1
		}
		s.L = append(s.L, p)
	}
	return s
}

// askAll asks each call something.
func askAll(s sent.Sent, n uint32, gaps [][2]uint16, size, path, now int) []any {
	a, b, c := sent.Put(s, size, path, now)
	d, e, f := sent.Ack(s, n, gaps, now)
	g, h := sent.Drop(s, path)
	i, j := sent.Again(s, n, path, now)
	return []any{sent.New(n), sent.Next(s), a, b, c, sent.Under(s, path), d, e, f, g, h, sent.Losses(s), i, j}
}

// P1: of Sents that are not right comes some answer, the same each time, without
// a panic; what was handed in stays as it was.
func TestWrongOnes(t *testing.T) {
	chance := rand.New(rand.NewSource(4))
	for range 5000 {
		s := anyWrong(chance)
		before, n := apart(s), s.Cum+uint32(chance.Intn(len(s.L)+4))-1
		if chance.Intn(4) == 0 {
			n = chance.Uint32()
		}
		gaps := anyGaps(chance, chance.Intn(len(s.L)+3))
		size, path, now := chance.Intn(1600)-50, chance.Intn(5)-2, int(chance.Uint64())
		a := askAll(s, n, gaps, size, path, now)
		if b := askAll(s, n, gaps, size, path, now); !reflect.DeepEqual(a, b) {
			t.Fatalf("%+v, %d, %v: told %v, then %v", before, n, gaps, a, b)
		}
		stays(t, "what was asked", s, before)
		// What came of it is taken, too.
		for _, u := range []sent.Sent{a[2].(sent.Sent), a[6].(sent.Sent), a[9].(sent.Sent), a[12].(sent.Sent)} {
			askAll(u, n+1, gaps, size, path, now)
		}
	}
}

// P1: of more pieces than there may be nothing is put behind them.
func TestTooManyPieces(t *testing.T) {
	for _, count := range []int{65, 66, 128, 1000} {
		u, n, err := sent.Put(many(5, count, out), 100, 0, 0)
		if err == api.OK || n != 0 || u.Cum != 0 || len(u.L) != 0 {
			t.Errorf("%d pieces: Put told %d pieces, %d, %v", count, len(u.L), n, err)
		}
	}
}

// P1: of lists that are long each call ends, and soon.
func TestLongLists(t *testing.T) {
	const long = 1 << 19
	first := slices.Repeat([][2]uint16{{1, 1}}, long)
	wide := slices.Repeat([][2]uint16{{1, 65535}, {65535, 65535}}, long/2)
	for _, s := range []sent.Sent{{}, many(5, 1, out), many(5, 64, out), many(5, 65, out), many(5, long, out), many(5, long, acked), many(top-9, long, lost)} {
		for _, gaps := range [][][2]uint16{nil, first, wide} {
			for _, d := range []uint32{0, 1, uint32(len(s.L)), half} {
				askAll(s, s.Cum+d, gaps, 9, -1, 9)
			}
		}
	}
	u, r, ok := sent.Ack(many(5, 64, out), 6, first, 0)
	if !ok || r.Bytes != 200 || sent.Under(u, -1) != 6200 {
		t.Errorf("many gaps of one piece: Ack told %+v, %t", r, ok)
	}
}

// roomy is a Sent of which the list has room behind it, with something in it;
// and the whole list.
func roomy() (sent.Sent, []sent.Piece) {
	whole := row(10, out, missed(out, 2), acked, lost, out, out, missed(out, 1)).L
	return sent.Sent{Cum: 10, L: whole[:5]}, whole
}

// calls are all that make a Sent of another one.
func calls() []func(s sent.Sent) sent.Sent {
	ack := func(cum uint32, gaps ...[2]uint16) func(s sent.Sent) sent.Sent {
		return func(s sent.Sent) sent.Sent {
			u, _, _ := sent.Ack(s, cum, gaps, 9)
			return u
		}
	}
	drop := func(path int) func(s sent.Sent) sent.Sent {
		return func(s sent.Sent) sent.Sent {
			u, _ := sent.Drop(s, path)
			return u
		}
	}
	again := func(tsn uint32) func(s sent.Sent) sent.Sent {
		return func(s sent.Sent) sent.Sent {
			u, _ := sent.Again(s, tsn, 2, 9)
			return u
		}
	}
	put := func(size int) func(s sent.Sent) sent.Sent {
		return func(s sent.Sent) sent.Sent {
			u, _, _ := sent.Put(s, size, 2, 9)
			return u
		}
	}
	return []func(s sent.Sent) sent.Sent{
		put(7), put(0), ack(10), ack(9), ack(12), ack(15), ack(10, [2]uint16{5, 5}), ack(11, [2]uint16{2, 4}), ack(10, [2]uint16{5, 6}),
		drop(-1), drop(0), drop(3), again(14), again(11), again(99),
	}
}

// P3: whatever is called, nothing that was handed in, nor what lies behind it,
// is written into; and no later change of one Sent is seen in the other one.
func TestHandedInStays(t *testing.T) {
	for i, call := range calls() {
		s, whole := roomy()
		before := slices.Clone(whole)
		u := call(s)
		told := apart(u)
		if !slices.Equal(whole, before) {
			t.Errorf("call %d made %+v of %+v", i, whole, before)
		}
		for j := range u.L {
			u.L[j] = sent.Piece{Tsn: 55}
		}
		if _ = append(u.L, sent.Piece{Tsn: 66}, sent.Piece{Tsn: 67}); !slices.Equal(whole, before) {
			t.Errorf("call %d: a change of what it told made %+v of %+v", i, whole, before)
		}
		again := call(s)
		for j := range whole {
			whole[j] = sent.Piece{Tsn: 44}
		}
		if !same(again, told) {
			t.Errorf("call %d told %+v, which became %+v", i, told, again)
		}
	}
}

// P3: two calls of one Sent do not see each other, though the Sent was made by a
// call, and has room behind its list.
func TestTwoOfOne(t *testing.T) {
	for count := range 20 {
		s := sent.New(11)
		for range count {
			s, _, _ = sent.Put(s, 100, 0, 0)
		}
		s, _ = sent.Drop(s, 0)
		s, _, _ = sent.Put(s, 50, 1, 1)
		before := apart(s)
		for i, one := range calls() {
			for j, two := range calls() {
				u := one(s)
				kept := apart(u)
				if two(s); !same(u, kept) || !same(s, before) {
					t.Errorf("%d pieces, call %d, then %d: told %+v, which became %+v; %+v became %+v", count, i, j, kept, u, before, s)
				}
				if two(u); !same(u, kept) {
					t.Errorf("%d pieces, call %d, then %d of that: told %+v, which became %+v", count, i, j, kept, u)
				}
			}
		}
	}
}

// P3: no two lists of one answer are the same memory.
func TestListsAreApart(t *testing.T) {
	s := row(9, out, missed(out, 2), out, out)
	u, r, _ := sent.Ack(s, 10, [][2]uint16{{2, 3}}, 9)
	kept, done, fast := apart(u), slices.Clone(r.Done), slices.Clone(r.Fast)
	r.Took[0] = 77
	r.Done = append(r.Done, 5, 5, 5)
	if !slices.Equal(r.Fast, fast) || !same(u, kept) {
		t.Errorf("Fast %v, Sent %+v", r.Fast, u)
	}
	r.Fast[0] = 99
	if !slices.Equal(r.Done[:len(done)], done) || !same(u, kept) {
		t.Errorf("Done %v, Sent %+v", r.Done, u)
	}
}

// P5: lists without elements are as good as none.
func TestEmptyLists(t *testing.T) {
	none, empty := sent.Sent{Cum: 5}, sent.Sent{Cum: 5, L: make([]sent.Piece, 0, 9)}
	for n := range uint32(10) {
		for _, gaps := range [][][2]uint16{nil, {}, {{1, 1}}} {
			wantAck(t, none, n, gaps, 5)
			wantAck(t, empty, n, gaps, 5)
		}
		wantAgain(t, none, n, 0, 0)
		wantAgain(t, empty, n, 0, 0)
	}
	for _, s := range []sent.Sent{none, empty} {
		wantTold(t, s)
		wantDrop(t, s, -1)
		wantPut(t, s, 5, 1, 2)
	}
	wantAck(t, many(5, 3, acked), 6, [][2]uint16{}, 5)
}

// P4: what is told hangs on nothing but what is handed in, whatever was asked
// before, or is asked at one time, of the same Sent.
func TestAskedTogether(t *testing.T) {
	shared, _ := roomy()
	before := apart(shared)
	var asked sync.WaitGroup
	for from := range 8 {
		asked.Go(func() {
			chance := rand.New(rand.NewSource(int64(from)))
			for range 300 {
				n, path := 9+uint32(chance.Intn(9)), chance.Intn(3)-1
				gaps := anyGaps(chance, 5)
				if !reflect.DeepEqual(askAll(shared, n, gaps, 5, path, 9), askAll(before, n, gaps, 5, path, 9)) {
					t.Errorf("%d, %v, %d: told otherwise", n, gaps, path)
				}
			}
		})
	}
	asked.Wait()
	if !same(shared, before) {
		t.Errorf("after all: %+v", shared)
	}
}
