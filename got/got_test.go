package got_test

import (
	"math/rand"
	"reflect"
	"slices"
	"sync"
	"testing"

	"towline/api"
	"towline/chunk"
	"towline/got"
)

const (
	half = uint32(1) << 31
	top  = ^uint32(0)
)

// edges are numbers at which the round begins, ends, or is half gone, and from
// which Far reaches one of these.
func edges() []uint32 {
	l := []uint32{0, 1, 2, 5, 1000, half - 1, half, half + 1, top - 1, top}
	for _, end := range []uint32{0, half} {
		l = append(l, end-4001, end-4000, end-3999, end-2000)
	}
	return l
}

// ahead is how far one must go on from a to come to b, in wide numbers, which do
// not go round here.
func ahead(a, b uint32) int64 {
	const round = int64(1) << 32
	return (int64(b) - int64(a) + round) % round
}

func apart(g got.Got) got.Got {
	return got.Got{Cum: g.Cum, Above: append([]uint32(nil), g.Above...), Dups: append([]uint32(nil), g.Dups...)}
}

func same(g, h got.Got) bool {
	return g.Cum == h.Cum && slices.Equal(g.Above, h.Above) && slices.Equal(g.Dups, h.Dups)
}

// at are the numbers so far above cum.
func at(cum uint32, above ...uint32) []uint32 {
	var l []uint32
	for _, d := range above {
		l = append(l, cum+d)
	}
	return l
}

// times is a list of how many numbers there are, one like the other.
func times(count int, n uint32) []uint32 { return slices.Repeat([]uint32{n}, count) }

// isRight tells whether a Got is right, by the chapter's words.
func isRight(g got.Got) bool {
	least := int64(2)
	for _, n := range g.Above {
		d := ahead(g.Cum, n)
		if d < least || d > 4000 {
			return false
		}
		least = d + 1
	}
	return !(len(g.Dups) > 100)
}

// came are the numbers above Cum that came, each by how far it is above.
func came(g got.Got) map[int64]int {
	m := map[int64]int{}
	for _, n := range g.Above {
		m[ahead(g.Cum, n)]++
	}
	return m
}

func hasByTheWords(g got.Got, n uint32) bool {
	if d := ahead(n, g.Cum); d >= 0 && d < 1<<31 {
		return true
	}
	return came(g)[ahead(g.Cum, n)] > 0
}

// takeByTheWords makes Cum and Above anew of all that came.
func takeByTheWords(g got.Got, n uint32) (got.Got, bool) {
	h := apart(g)
	if hasByTheWords(g, n) {
		if len(h.Dups) <= 99 {
			h.Dups = append(h.Dups, n)
		}
		return h, false
	}
	if ahead(g.Cum, n) > 4000 {
		return h, false
	}
	all := came(g)
	all[ahead(g.Cum, n)]++
	gone := int64(0)
	for all[gone+1] > 0 {
		gone++
	}
	h.Cum, h.Above = g.Cum+uint32(gone), nil
	for d := gone + 1; d <= 4000; d++ {
		if all[d] > 0 {
			h.Above = append(h.Above, g.Cum+uint32(d))
		}
	}
	return h, true
}

func gapsByTheWords(g got.Got) [][2]uint16 {
	var gaps [][2]uint16
	all := came(g)
	for d := int64(1); d <= 4000; d++ {
		if all[d] == 0 {
			continue
		}
		if all[d-1] == 0 {
			gaps = append(gaps, [2]uint16{uint16(d), 0})
		}
		gaps[len(gaps)-1][1] = uint16(d)
	}
	if len(gaps) > 100 {
		gaps = gaps[:100]
	}
	return gaps
}

func lastByTheWords(g got.Got) uint32 {
	last := int64(0)
	for d := range came(g) {
		last = max(last, d)
	}
	return g.Cum + uint32(last)
}

func missingByTheWords(g got.Got) []uint32 {
	var l []uint32
	all, last := came(g), ahead(g.Cum, lastByTheWords(g))
	for d := int64(1); d < last; d++ {
		if all[d] == 0 {
			l = append(l, g.Cum+uint32(d))
		}
	}
	return l
}

// wantSack holds what Sack tells against the words.
func wantSack(t *testing.T, g got.Got, window uint32) {
	t.Helper()
	before := apart(g)
	c, h := got.Sack(g, window)
	if c.Type != 3 || c.Tsn != g.Cum || c.Window != window || !slices.Equal(c.Gaps, gapsByTheWords(g)) || !slices.Equal(c.Dups, before.Dups) {
		t.Fatalf("Sack(%+v, %d) told %+v", before, window, c)
	}
	if c.Flags != 0 || c.Tag != 0 || c.Ppid != 0 || c.Stream != 0 || c.Ssn != 0 || c.Outs != 0 || c.Ins != 0 || len(c.Items) != 0 || c.Text != "" {
		t.Fatalf("Sack(%+v, %d) told %+v, with more than a Sack has", before, window, c)
	}
	if !chunk.Right(c) {
		t.Fatalf("Sack(%+v, %d) told %+v, which is not right", before, window, c)
	}
	if !same(h, got.Got{Cum: before.Cum, Above: before.Above}) {
		t.Fatalf("Sack(%+v, %d) left %+v", before, window, h)
	}
	if !same(g, before) {
		t.Fatalf("Sack made %+v of what was handed in, %+v", g, before)
	}
}

// wantTake holds what Has and Take tell of a number against the words, and
// tells what Take told.
func wantTake(t *testing.T, g got.Got, n uint32) (got.Got, bool) {
	t.Helper()
	before := apart(g)
	if has := got.Has(g, n); has != hasByTheWords(g, n) {
		t.Fatalf("Has(%+v, %d) told %t", before, n, has)
	}
	h, fresh := got.Take(g, n)
	if want, wanted := takeByTheWords(before, n); !same(h, want) || fresh != wanted {
		t.Fatalf("Take(%+v, %d) told %+v, %t, want %+v, %t", before, n, h, fresh, want, wanted)
	}
	if !same(g, before) {
		t.Fatalf("Take made %+v of what was handed in, %+v", g, before)
	}
	if !isRight(h) {
		t.Fatalf("Take(%+v, %d) told %+v, which is not right", before, n, h)
	}
	return h, fresh
}

// wantTold holds what is told of a Got against the words.
func wantTold(t *testing.T, g got.Got) {
	t.Helper()
	before := apart(g)
	if gaps := got.Gaps(g); !slices.Equal(gaps, gapsByTheWords(g)) {
		t.Fatalf("Gaps(%+v) told %v", before, gaps)
	}
	if missing := got.Missing(g); !slices.Equal(missing, missingByTheWords(g)) || len(missing) == 0 && missing != nil {
		t.Fatalf("Missing(%+v) told %v", before, missing)
	}
	if last := got.Last(g); last != lastByTheWords(g) {
		t.Fatalf("Last(%+v) told %d", before, last)
	}
	if !same(g, before) {
		t.Fatalf("%+v became %+v", before, g)
	}
	wantSack(t, g, 77)
}

// anyRight is a Got that is right: Above has few numbers or many, near Cum or as
// far as may be.
func anyRight(chance *rand.Rand) got.Got {
	l := edges()
	g := got.Got{Cum: l[chance.Intn(len(l))] + uint32(chance.Intn(5))}
	span := []int{3, 8, 60, 400, 3999}[chance.Intn(5)]
	share := []int{1, 10, 50, 90, 100}[chance.Intn(5)]
	for d := 2; d < 2+span; d++ {
		if chance.Intn(100) < share {
			g.Above = append(g.Above, g.Cum+uint32(d))
		}
	}
	for range []int{0, 1, 98, 99, 100, chance.Intn(101)}[chance.Intn(6)] {
		g.Dups = append(g.Dups, chance.Uint32())
	}
	return g
}

// anyNumber is one that a Got may be asked about: one at an edge, one not far
// above Cum, or any.
func anyNumber(chance *rand.Rand, g got.Got) uint32 {
	switch chance.Intn(8) {
	case 0:
		return chance.Uint32()
	case 1:
		return g.Cum + half - 2 + uint32(chance.Intn(5))
	case 2:
		return g.Cum + 3997 + uint32(chance.Intn(7))
	case 3:
		return g.Cum + uint32(chance.Intn(4100)) - 50
	case 4:
		return got.Last(g) + uint32(chance.Intn(5)) - 2
	}
	return g.Cum + uint32(chance.Intn(12)) - 3
}

// The chapter's examples, and what Far is.
func TestExamples(t *testing.T) {
	g := got.New(5)
	for _, n := range []uint32{7, 8} {
		g, _ = got.Take(g, n)
	}
	if gaps := got.Gaps(g); !slices.Equal(gaps, [][2]uint16{{3, 4}}) {
		t.Errorf("Gaps told %v", gaps)
	}
	g, _ = got.Take(g, 5)
	if !same(g, got.Got{Cum: 5, Above: []uint32{7, 8}}) {
		t.Errorf("Take of 5 told %+v", g)
	}
	g, _ = got.Take(g, 6)
	if !same(g, got.Got{Cum: 8}) {
		t.Errorf("Take of 6 told %+v", g)
	}
	if got.Far != 4000 {
		t.Errorf("Far is %d", got.Far)
	}
}

// G1: New.
func TestNew(t *testing.T) {
	for _, c := range []struct{ first, cum uint32 }{{5, 4}, {1, 0}, {0, top}, {2, 1}, {top, top - 1}, {half, half - 1}, {half + 1, half}} {
		if g := got.New(c.first); g.Cum != c.cum || len(g.Above) != 0 || len(g.Dups) != 0 {
			t.Errorf("New(%d) told %+v", c.first, g)
		}
		if g, fresh := got.Take(got.New(c.first), c.first); !fresh || !same(g, got.Got{Cum: c.first}) {
			t.Errorf("Take of the first one, %d, told %+v, %t", c.first, g, fresh)
		}
	}
}

// G1: Has, of numbers at each bound, written out.
func TestHas(t *testing.T) {
	for _, cum := range edges() {
		g := got.Got{Cum: cum, Above: at(cum, 2, 3, 7, 3999, 4000), Dups: at(cum, 4, 8, 5000)}
		for _, c := range []struct {
			name string
			n    uint32
			want bool
		}{
			{"Cum", cum, true},
			{"1 below", cum - 1, true},
			{"2 below", cum - 2, true},
			{"4001 below", cum - 4001, true},
			{"half the round less 2 below", cum - (half - 2), true},
			{"half the round less 1 below", cum - (half - 1), true},
			{"half the round away", cum + half, false},
			{"half the round less 1 above", cum + half - 1, false},
			{"1 above", cum + 1, false},
			{"the first one of Above", cum + 2, true},
			{"the one behind it", cum + 3, true},
			{"missing, told as a dup", cum + 4, false},
			{"missing", cum + 6, false},
			{"one between", cum + 7, true},
			{"missing behind it", cum + 8, false},
			{"Far less 2", cum + 3998, false},
			{"Far less 1", cum + 3999, true},
			{"Far", cum + 4000, true},
			{"beyond Far", cum + 4001, false},
			{"far beyond, told as a dup", cum + 5000, false},
		} {
			if has := got.Has(g, c.n); has != c.want {
				t.Errorf("Cum %d: Has of %s told %t", cum, c.name, has)
			}
		}
	}
}

// G1: Take of numbers at each bound, written out: which is fresh, and what it
// makes of a Got.
func TestTake(t *testing.T) {
	for _, cum := range edges() {
		g := got.Got{Cum: cum, Above: at(cum, 2, 3, 7, 9, 3999), Dups: []uint32{4}}
		for _, c := range []struct {
			name  string
			n     uint32
			fresh bool
			cum   uint32
			above []uint32
			dups  []uint32
		}{
			{"Cum", cum, false, 0, []uint32{2, 3, 7, 9, 3999}, []uint32{4, cum}},
			{"1 below", cum - 1, false, 0, []uint32{2, 3, 7, 9, 3999}, []uint32{4, cum - 1}},
			{"half the round less 1 below", cum - (half - 1), false, 0, []uint32{2, 3, 7, 9, 3999}, []uint32{4, cum - (half - 1)}},
			{"half the round away", cum + half, false, 0, []uint32{2, 3, 7, 9, 3999}, []uint32{4}},
			{"half the round less 1 above", cum + half - 1, false, 0, []uint32{2, 3, 7, 9, 3999}, []uint32{4}},
			{"4002", cum + 4002, false, 0, []uint32{2, 3, 7, 9, 3999}, []uint32{4}},
			{"4001", cum + 4001, false, 0, []uint32{2, 3, 7, 9, 3999}, []uint32{4}},
			{"4000", cum + 4000, true, 0, []uint32{2, 3, 7, 9, 3999, 4000}, []uint32{4}},
			{"3999, which came", cum + 3999, false, 0, []uint32{2, 3, 7, 9, 3999}, []uint32{4, cum + 3999}},
			{"3998", cum + 3998, true, 0, []uint32{2, 3, 7, 9, 3998, 3999}, []uint32{4}},
			{"the first one of Above", cum + 2, false, 0, []uint32{2, 3, 7, 9, 3999}, []uint32{4, cum + 2}},
			{"one of Above", cum + 7, false, 0, []uint32{2, 3, 7, 9, 3999}, []uint32{4, cum + 7}},
			{"4", cum + 4, true, 0, []uint32{2, 3, 4, 7, 9, 3999}, []uint32{4}},
			{"5", cum + 5, true, 0, []uint32{2, 3, 5, 7, 9, 3999}, []uint32{4}},
			{"8", cum + 8, true, 0, []uint32{2, 3, 7, 8, 9, 3999}, []uint32{4}},
			{"1", cum + 1, true, 3, []uint32{7, 9, 3999}, []uint32{4}},
		} {
			h, fresh := got.Take(g, c.n)
			want := got.Got{Cum: cum + c.cum, Above: at(cum, c.above...), Dups: c.dups}
			if !same(h, want) || fresh != c.fresh {
				t.Errorf("Cum %d: Take of %s told %+v, %t, want %+v", cum, c.name, h, fresh, want)
			}
		}
	}
}

// G1: every number near Cum, near Far and near half the round away, of a Got
// with nothing above, and of one with all above but one.
func TestTakeBounds(t *testing.T) {
	for _, cum := range edges() {
		full := got.Got{Cum: cum}
		for d := uint32(2); d <= 4000; d++ {
			if d != 2000 {
				full.Above = append(full.Above, cum+d)
			}
		}
		for _, bound := range []uint32{0, 2000, 4000, half} {
			for d := range uint32(9) {
				n := cum + bound - 4 + d
				wantTake(t, got.Got{Cum: cum}, n)
				wantTake(t, full, n)
			}
		}
	}
}

// G1: Cum goes on with what follows one by one, however much that is, and no
// further.
func TestGoesOn(t *testing.T) {
	for _, cum := range edges() {
		for _, c := range []struct {
			name  string
			above []uint32
			cum   uint32
			left  []uint32
		}{
			{"nothing above", nil, 1, nil},
			{"one that follows", []uint32{2}, 2, nil},
			{"one that does not", []uint32{3}, 1, []uint32{3}},
			{"three that follow", []uint32{2, 3, 4}, 4, nil},
			{"two that follow, one that does not", []uint32{2, 3, 5}, 3, []uint32{5}},
			{"one that follows, two that do not", []uint32{2, 4, 5}, 2, []uint32{4, 5}},
			{"none that follows", []uint32{3, 4, 5}, 1, []uint32{3, 4, 5}},
			{"two rows", []uint32{2, 3, 4, 6, 7, 8}, 4, []uint32{6, 7, 8}},
			{"the farthest one", []uint32{4000}, 1, []uint32{4000}},
		} {
			g := got.Got{Cum: cum, Above: at(cum, c.above...), Dups: []uint32{9}}
			want := got.Got{Cum: cum + c.cum, Above: at(cum, c.left...), Dups: []uint32{9}}
			if h, fresh := got.Take(g, cum+1); !same(h, want) || !fresh {
				t.Errorf("Cum %d, %s: Take told %+v, %t", cum, c.name, h, fresh)
			}
		}
		all := got.Got{Cum: cum}
		for d := uint32(2); d <= 4000; d++ {
			all.Above = append(all.Above, cum+d)
		}
		if h, fresh := got.Take(all, cum+1); !same(h, got.Got{Cum: cum + 4000}) || !fresh {
			t.Errorf("Cum %d, all above: Take told Cum %d, %d above, %t", cum, h.Cum, len(h.Above), fresh)
		}
	}
}

// G1: a number that came already is put behind Dups, also one that is there
// twice, as long as there are fewer than 100.
func TestDups(t *testing.T) {
	for count := range 104 {
		for _, n := range []uint32{top, top - 1, 7, 1, 3, half, half - 1} { // half - 1 is half the round away
			g := got.Got{Cum: top, Above: []uint32{1, 3}, Dups: times(count, 7)}
			h, fresh := got.Take(g, n)
			want := apart(g)
			if n != 7 && n != half-1 && count < 100 {
				want.Dups = append(want.Dups, n)
			}
			if n == 7 {
				want.Above = []uint32{1, 3, 7}
			}
			if !same(h, want) || fresh != (n == 7) {
				t.Fatalf("%d dups: Take of %d told %+v, %t", count, n, h, fresh)
			}
		}
	}
	g := got.New(1)
	var want []uint32
	for i := range uint32(300) {
		n := -(i % 7) // the first one, and those ahead of it
		g, _ = got.Take(g, n)
		if want = append(want, n); !slices.Equal(g.Dups, want[:min(len(want), 100)]) {
			t.Fatalf("dup %d: told %v", i, g.Dups)
		}
	}
	// Those that came, and those that are too far, leave Dups as they are.
	h, _ := got.Take(g, 4001)
	if h, _ = got.Take(h, 1); !slices.Equal(h.Dups, want[:100]) || h.Cum != 1 {
		t.Errorf("told %+v", h)
	}
}

// G2: Gaps, written out, near each edge of the round.
func TestGaps(t *testing.T) {
	for _, cum := range edges() {
		for _, c := range []struct {
			above []uint32
			want  [][2]uint16
		}{
			{nil, nil},
			{[]uint32{2}, [][2]uint16{{2, 2}}},
			{[]uint32{4000}, [][2]uint16{{4000, 4000}}},
			{[]uint32{2, 4000}, [][2]uint16{{2, 2}, {4000, 4000}}},
			{[]uint32{2, 3}, [][2]uint16{{2, 3}}},
			{[]uint32{2, 4}, [][2]uint16{{2, 2}, {4, 4}}},
			{[]uint32{3, 4, 5, 7, 9, 10}, [][2]uint16{{3, 5}, {7, 7}, {9, 10}}},
			{[]uint32{3998, 3999, 4000}, [][2]uint16{{3998, 4000}}},
		} {
			g := got.Got{Cum: cum, Above: at(cum, c.above...), Dups: []uint32{1}}
			if gaps := got.Gaps(g); !slices.Equal(gaps, c.want) {
				t.Errorf("Cum %d, %v: Gaps told %v", cum, c.above, gaps)
			}
		}
		all := got.Got{Cum: cum}
		for d := uint32(2); d <= 4000; d++ {
			all.Above = append(all.Above, cum+d)
		}
		if gaps := got.Gaps(all); !slices.Equal(gaps, [][2]uint16{{2, 4000}}) {
			t.Errorf("Cum %d, all above: Gaps told %v", cum, gaps)
		}
	}
}

// rows is a Got with so many rows of two above it.
func rows(cum uint32, count int) got.Got {
	g := got.Got{Cum: cum}
	for i := range uint32(count) {
		g.Above = append(g.Above, cum+3*i+5, cum+3*i+6)
	}
	return g
}

// G2: of more than 100 gaps the first 100 are told; what is missing is told of
// all.
func TestManyGaps(t *testing.T) {
	for _, cum := range edges() {
		for _, count := range []int{98, 99, 100, 101, 102, 150, 1331} {
			g := rows(cum, count)
			var want [][2]uint16
			for i := range uint16(min(count, 100)) {
				want = append(want, [2]uint16{3*i + 5, 3*i + 6})
			}
			if gaps := got.Gaps(g); !slices.Equal(gaps, want) {
				t.Errorf("Cum %d, %d gaps: told %v", cum, count, gaps)
			}
			if c, _ := got.Sack(g, 5); !slices.Equal(c.Gaps, want) || !chunk.Right(c) {
				t.Errorf("Cum %d, %d gaps: Sack told %+v", cum, count, c)
			}
			if missing := got.Missing(g); len(missing) != count+3 || missing[len(missing)-1] != cum+uint32(3*count)+1 {
				t.Errorf("Cum %d, %d gaps: Missing told %v", cum, count, missing)
			}
			wantTold(t, g)
		}
	}
}

// G2: Sack, written out.
func TestSack(t *testing.T) {
	for _, cum := range edges() {
		for _, window := range []uint32{0, 1, 60000, half, top} {
			g := got.Got{Cum: cum, Above: at(cum, 2, 3, 5), Dups: []uint32{9, 8, 9, 0, top}}
			c, h := got.Sack(g, window)
			if c.Type != api.Sack || c.Tsn != cum || c.Window != window || !slices.Equal(c.Gaps, [][2]uint16{{2, 3}, {5, 5}}) || !slices.Equal(c.Dups, []uint32{9, 8, 9, 0, top}) {
				t.Errorf("Sack told %+v", c)
			}
			if !same(h, got.Got{Cum: cum, Above: at(cum, 2, 3, 5)}) {
				t.Errorf("Sack left %+v", h)
			}
			wantSack(t, g, window)
			wantSack(t, h, window)
			wantSack(t, got.New(cum), window)
		}
	}
}

// G2, G3: a Sack is a right chunk: what is told is read again from its bytes.
func TestSackIsRight(t *testing.T) {
	for _, gaps := range []int{0, 1, 99, 100, 101, 1331} {
		for _, dups := range []int{0, 1, 99, 100} {
			g := rows(top-5, gaps)
			g.Dups = times(dups, 7)
			c, _ := got.Sack(g, 60000)
			s, err := chunk.Build(c)
			back, size, parsed := chunk.Parse(s)
			if err != api.OK || parsed != api.OK || size != len(s) || len(back.Gaps) != min(gaps, 100) || len(back.Dups) != dups {
				t.Errorf("%d gaps, %d dups: Build told %d, Parse %d", gaps, dups, err, parsed)
			}
			if back.Tsn != g.Cum || back.Window != 60000 || !slices.Equal(back.Gaps, c.Gaps) || !slices.Equal(back.Dups, c.Dups) {
				t.Errorf("%d gaps, %d dups: read %+v", gaps, dups, back)
			}
		}
	}
}

// G2: Dups are told by one Sack, not by the next one; then there is room for
// others.
func TestSacksOneAfterAnother(t *testing.T) {
	g := got.Got{Cum: 5, Above: []uint32{8}, Dups: times(100, 3)}
	if g, _ = got.Take(g, 4); len(g.Dups) != 100 {
		t.Errorf("told %+v", g)
	}
	c, g := got.Sack(g, 1)
	if len(c.Dups) != 100 {
		t.Errorf("told %+v", c)
	}
	g, _ = got.Take(g, 4)
	c, g = got.Sack(g, 1)
	if !slices.Equal(c.Dups, []uint32{4}) || !slices.Equal(c.Gaps, [][2]uint16{{3, 3}}) {
		t.Errorf("told %+v", c)
	}
	if c, g = got.Sack(g, 1); len(c.Dups) != 0 || !same(g, got.Got{Cum: 5, Above: []uint32{8}}) {
		t.Errorf("told %+v, left %+v", c, g)
	}
}

// G2: Missing and Last, written out.
func TestMissingAndLast(t *testing.T) {
	for _, cum := range edges() {
		for _, c := range []struct {
			above, missing []uint32
			last           uint32
		}{
			{nil, nil, 0},
			{[]uint32{2}, []uint32{1}, 2},
			{[]uint32{2, 3, 4}, []uint32{1}, 4},
			{[]uint32{3}, []uint32{1, 2}, 3},
			{[]uint32{2, 4, 7}, []uint32{1, 3, 5, 6}, 7},
			{[]uint32{5, 6, 9}, []uint32{1, 2, 3, 4, 7, 8}, 9},
		} {
			g := got.Got{Cum: cum, Above: at(cum, c.above...), Dups: at(cum, 1)}
			if missing := got.Missing(g); !slices.Equal(missing, at(cum, c.missing...)) {
				t.Errorf("Cum %d, %v: Missing told %v", cum, c.above, missing)
			}
			if last := got.Last(g); last != cum+c.last {
				t.Errorf("Cum %d, %v: Last told %d", cum, c.above, last)
			}
		}
		if missing := got.Missing(got.Got{Cum: cum, Dups: []uint32{1}}); missing != nil {
			t.Errorf("Cum %d: Missing of nothing above told %v, not nil", cum, missing)
		}
		far := got.Got{Cum: cum, Above: at(cum, 4000)}
		if missing := got.Missing(far); len(missing) != 3999 || missing[0] != cum+1 || missing[3998] != cum+3999 || got.Last(far) != cum+4000 {
			t.Errorf("Cum %d, Far above: Missing told %d, Last %d", cum, len(missing), got.Last(far))
		}
	}
}

// G1, G2: all Gots with some of the seven numbers above Cum, and all numbers
// near them, against the words.
func TestAllNear(t *testing.T) {
	for _, cum := range edges() {
		for code := range 1 << 7 {
			g := got.Got{Cum: cum, Dups: []uint32{5}}
			for d := range 7 {
				if code>>d&1 != 0 {
					g.Above = append(g.Above, cum+2+uint32(d))
				}
			}
			wantTold(t, g)
			for d := range uint32(13) {
				wantTake(t, g, cum-2+d)
			}
		}
	}
}

// G1, G2: any Gots and numbers against the words.
func TestAnything(t *testing.T) {
	chance := rand.New(rand.NewSource(1))
	for range 1500 {
		g := anyRight(chance)
		if !isRight(g) {
			t.Fatalf("%+v is not right", g)
		}
		wantTold(t, g)
		for range 4 {
			wantTake(t, g, anyNumber(chance, g))
		}
	}
}

// story takes numbers from first on, in whatever order, some more than once,
// and holds what is told against all that came so far.
func story(t *testing.T, chance *rand.Rand, first uint32, spread int) {
	g, seen, next := got.New(first), map[uint32]int{}, first
	for range 400 {
		n := next + uint32(chance.Intn(spread)) - uint32(chance.Intn(3))
		if chance.Intn(3) == 0 {
			n = next
		}
		h, fresh := wantTake(t, g, n)
		if fresh {
			seen[n]++
		}
		for seen[next] > 0 {
			next++
		}
		if seen[n] > 1 || fresh && !got.Has(h, n) || h.Cum != next-1 {
			t.Fatalf("from %d on: Take(%+v, %d) told %+v, %t, the next one is %d", first, g, n, h, fresh, next)
		}
		if g = h; chance.Intn(20) == 0 {
			wantTold(t, g)
			_, g = got.Sack(g, 5)
		}
	}
	for n := range seen {
		if !got.Has(g, n) {
			t.Fatalf("from %d on: %d came, and %+v does not have it", first, n, g)
		}
	}
}

// G3: a number is told to be fresh once at most; Cum is the last one of which
// all from the first on came; a Got that is right stays so, and a Sack of it is
// a right chunk.
func TestStories(t *testing.T) {
	chance := rand.New(rand.NewSource(2))
	for _, first := range edges() {
		for _, spread := range []int{1, 2, 20, 4500} {
			story(t, chance, first, spread)
		}
	}
}

// G3: numbers that come in another order make the same Cum and Above.
func TestAnyOrder(t *testing.T) {
	chance := rand.New(rand.NewSource(3))
	for _, first := range edges() {
		for range 20 {
			var all []uint32
			for d := range uint32(1 + chance.Intn(200)) {
				if chance.Intn(8) > 0 {
					all = append(all, first+d)
				}
			}
			want := got.New(first)
			for _, n := range all {
				want, _ = got.Take(want, n)
			}
			g := got.New(first)
			for _, i := range chance.Perm(len(all)) {
				var fresh bool
				if g, fresh = got.Take(g, all[i]); !fresh {
					t.Fatalf("from %d on: %d was told not to be fresh", first, all[i])
				}
			}
			if !same(g, want) {
				t.Fatalf("from %d on: %v made %+v, want %+v", first, all, g, want)
			}
		}
	}
}

// G3: as many as there may be, falling, so that each is put in ahead of all
// others: all are kept, and the last one that comes ends it.
func TestFalling(t *testing.T) {
	cum := top - 1000
	g := got.New(cum + 1)
	for d := uint32(4000); d > 1; d-- {
		var fresh bool
		if g, fresh = got.Take(g, cum+d); !fresh || len(g.Above) != int(4001-d) {
			t.Fatalf("%d above: told %t, %d above", d, fresh, len(g.Above))
		}
	}
	wantTold(t, g)
	if g, _ = wantTake(t, g, cum+1); g.Cum != cum+4000 || len(g.Above) != 0 {
		t.Errorf("told %+v", g)
	}
}

// anyWrong is a Got that somebody filled in without care.
func anyWrong(chance *rand.Rand) got.Got {
	g := got.Got{Cum: chance.Uint32()}
	for range chance.Intn(12) {
		n := chance.Uint32()
		if chance.Intn(2) == 0 {
			n = g.Cum + uint32(chance.Intn(20)) - 6
		}
		g.Above = append(g.Above, n)
		if chance.Intn(3) == 0 {
			g.Above = append(g.Above, n)
		}
	}
	g.Dups = times(chance.Intn(300), n32(chance))
	return g
}

func n32(chance *rand.Rand) uint32 { return chance.Uint32() >> chance.Intn(32) }

// askAll asks each call something.
func askAll(g got.Got, n uint32) []any {
	h, fresh := got.Take(g, n)
	c, left := got.Sack(g, n)
	return []any{got.Has(g, n), h.Cum, h.Above, h.Dups, fresh, got.Gaps(g), c, left, got.Missing(g), got.Last(g)}
}

// P1: of Gots that are not right comes some answer, the same each time, without
// a panic, and within bounds; what was handed in stays as it was.
func TestWrongOnes(t *testing.T) {
	chance := rand.New(rand.NewSource(4))
	for range 5000 {
		g := anyWrong(chance)
		before, n := apart(g), n32(chance)
		if chance.Intn(2) == 0 {
			n += g.Cum
		}
		if a, b := askAll(g, n), askAll(g, n); !reflect.DeepEqual(a, b) {
			t.Fatalf("%+v, %d: told %v, then %v", before, n, a, b)
		}
		if missing := got.Missing(g); len(missing) > got.Far {
			t.Fatalf("Missing(%+v) told %d numbers", before, len(missing))
		}
		if !same(g, before) {
			t.Fatalf("%+v became %+v", before, g)
		}
		// Taken again and again, it ends too.
		for range 20 {
			g, _ = got.Take(g, g.Cum+1+uint32(chance.Intn(4)))
		}
	}
}

// P1: of lists that are long, and of numbers that are far off, each call ends,
// and soon.
func TestLongLists(t *testing.T) {
	const many = 1 << 18
	rising, falling := make([]uint32, many), make([]uint32, many)
	for i := range rising {
		rising[i] = uint32(i) * 3
		falling[many-1-i] = rising[i]
	}
	for _, g := range []got.Got{
		{Cum: 0, Above: rising, Dups: falling}, {Cum: 7, Above: falling, Dups: rising}, {Cum: half, Above: rising},
		{Cum: 5, Above: []uint32{4}}, {Cum: 5, Above: []uint32{5}}, {Cum: 5, Above: []uint32{6}}, {Cum: 5, Above: []uint32{5 + half}},
		{Cum: 5, Above: times(many, 9)}, {Cum: 5, Above: times(many, 6)}, {Cum: 5, Above: []uint32{4, 3, 2, 1, 0}},
	} {
		for _, n := range []uint32{g.Cum, g.Cum + 1, g.Cum + 2, g.Cum + 4000, g.Cum + 4001, g.Cum + half, g.Cum - 1, 9} {
			askAll(g, n)
		}
		if missing := got.Missing(g); len(missing) > got.Far {
			t.Errorf("Missing told %d numbers", len(missing))
		}
	}
}

// roomy is a Got of which both lists have room behind them, with something in
// it; and these lists with that.
func roomy() (g got.Got, above, dups []uint32) {
	above = []uint32{12, 13, 17, 9999, 9998, 9997}
	dups = []uint32{3, 4, 7777, 7776, 7775}
	return got.Got{Cum: 10, Above: above[:3], Dups: dups[:2]}, above, dups
}

// P3, and the chapter's way: a number that is put in is written into nothing
// that was handed in, nor into what lies behind it, wherever it is put; and no
// later change of one Got is seen in the other one.
func TestHandedInStays(t *testing.T) {
	for _, n := range append(at(10, 1, 2, 3, 4, 5, 6, 7, 8, 9, 4000, 4001, half), 6, 9, 10) {
		g, above, dups := roomy()
		before, wholeAbove, wholeDups := apart(g), slices.Clone(above), slices.Clone(dups)
		h, _ := got.Take(g, n)
		told := apart(h)
		if want, _ := takeByTheWords(before, n); !same(told, want) {
			t.Errorf("Take of %d told %+v, want %+v", n, told, want)
		}
		for i := range h.Above {
			h.Above[i] = 55
		}
		for i := range h.Dups {
			h.Dups[i] = 66
		}
		h.Above, h.Dups = append(h.Above, 5, 5, 5), append(h.Dups, 6, 6, 6)
		if !slices.Equal(above, wholeAbove) || !slices.Equal(dups, wholeDups) {
			t.Errorf("Take of %d, and a change of what it told: above %v, dups %v", n, above, dups)
		}
		again, _ := got.Take(g, n)
		for i := range above {
			above[i] = 44
		}
		for i := range dups {
			dups[i] = 33
		}
		if !same(again, told) {
			t.Errorf("Take of %d told %+v, which became %+v", n, told, again)
		}
	}
}

// P3: two numbers put into one Got do not see each other.
func TestTwoOfOne(t *testing.T) {
	g, _, _ := roomy()
	for a := uint32(6); a < 24; a++ {
		for b := uint32(6); b < 24; b++ {
			one, _ := got.Take(g, a)
			kept := apart(one)
			two, _ := got.Take(g, b)
			three, _ := got.Take(one, b)
			four, _ := got.Take(one, b+1)
			wantTwo, _ := takeByTheWords(g, b)
			wantThree, _ := takeByTheWords(kept, b)
			wantFour, _ := takeByTheWords(kept, b+1)
			if !same(one, kept) || !same(two, wantTwo) || !same(three, wantThree) || !same(four, wantFour) {
				t.Errorf("%d, %d: told %+v, %+v, %+v, %+v", a, b, one, two, three, four)
			}
		}
	}
}

// P3: what Sack, Gaps and Missing tell is new.
func TestToldIsNew(t *testing.T) {
	g, above, dups := roomy()
	wholeAbove, wholeDups := slices.Clone(above), slices.Clone(dups)
	c, h := got.Sack(g, 5)
	gaps, missing := got.Gaps(g), got.Missing(g)
	for i := range gaps {
		gaps[i] = [2]uint16{1, 1}
	}
	for i := range missing {
		missing[i] = 2
	}
	if _, _ = append(gaps, [2]uint16{}), append(missing, 2); !slices.Equal(above, wholeAbove) || !slices.Equal(dups, wholeDups) {
		t.Errorf("above %v, dups %v", above, dups)
	}
	for i := range h.Above {
		h.Above[i] = 3
	}
	h.Dups = append(h.Dups, 4, 4)
	if !slices.Equal(c.Gaps, [][2]uint16{{2, 3}, {7, 7}}) || !slices.Equal(c.Dups, []uint32{3, 4}) || !slices.Equal(above, wholeAbove) || !slices.Equal(dups, wholeDups) {
		t.Errorf("told %+v, above %v, dups %v", c, above, dups)
	}
	c, h = got.Sack(g, 5)
	c.Dups[0], c.Dups[1] = 99, 98
	if c.Dups = append(c.Dups, 97); !slices.Equal(dups, wholeDups) || len(h.Dups) != 0 {
		t.Errorf("dups %v, left %+v", dups, h)
	}
	c, h = got.Sack(g, 5)
	for i := range above {
		above[i] = 44
	}
	for i := range dups {
		dups[i] = 33
	}
	if !slices.Equal(c.Dups, []uint32{3, 4}) || !slices.Equal(c.Gaps, [][2]uint16{{2, 3}, {7, 7}}) || !same(h, got.Got{Cum: 10, Above: []uint32{12, 13, 17}}) {
		t.Errorf("became %+v, %+v", c, h)
	}
}

// P5: lists without elements are as good as none.
func TestEmptyLists(t *testing.T) {
	none, empty := got.Got{Cum: 5}, got.Got{Cum: 5, Above: []uint32{}, Dups: make([]uint32, 0, 9)}
	for n := range uint32(12) {
		g, a := wantTake(t, none, n)
		h, b := wantTake(t, empty, n)
		if !same(g, h) || a != b {
			t.Errorf("%d: told %+v, %+v", n, g, h)
		}
	}
	wantTold(t, none)
	wantTold(t, empty)
}

// P4: what is told hangs on nothing but what is handed in, whatever was asked
// before, or is asked at one time, of the same Got.
func TestAskedTogether(t *testing.T) {
	shared, _, _ := roomy()
	before := apart(shared)
	var asked sync.WaitGroup
	for from := range 8 {
		asked.Go(func() {
			chance := rand.New(rand.NewSource(int64(from)))
			g := shared
			for range 200 {
				n := anyNumber(chance, g)
				if !reflect.DeepEqual(askAll(g, n), askAll(g, n)) || !reflect.DeepEqual(askAll(shared, n), askAll(before, n)) {
					t.Errorf("%+v, %d: told otherwise", g, n)
				}
				g, _ = got.Take(g, n)
			}
		})
	}
	asked.Wait()
	if !same(shared, before) {
		t.Errorf("after all: %+v", shared)
	}
}
