package serial_test

import (
	"math/rand"
	"slices"
	"testing"

	"towline/serial"
)

const (
	half = uint32(1) << 31
	top  = ^uint32(0)
)

// edges are the numbers at which the round begins, ends, or is half gone.
func edges() []uint32 {
	return []uint32{0, 1, 2, 3, 5, 1000, half - 2, half - 1, half, half + 1, half + 2, top - 2, top - 1, top}
}

// ahead and dist tell what S1 says in wide numbers, which do not go round here.
func ahead(a, b, round int64) bool {
	d := ((b-a)%round + round) % round
	return d >= 1 && d <= round/2-1
}

func dist(a, b, round int64) int64 {
	d := ((b-a)%round + round) % round
	if d >= round/2 {
		d -= round
	}
	return d
}

// S1.
func TestBeforeDistLater(t *testing.T) {
	const round = int64(1) << 32
	for _, a := range edges() {
		for _, b := range edges() {
			want := ahead(int64(a), int64(b), round)
			if got := serial.Before(a, b); got != want {
				t.Errorf("Before(%d, %d) = %v", a, b, got)
			}
			if got := serial.Dist(a, b); int64(got) != dist(int64(a), int64(b), round) {
				t.Errorf("Dist(%d, %d) = %d", a, b, got)
			}
			later := a
			if want {
				later = b
			}
			if got := serial.Later(a, b); got != later {
				t.Errorf("Later(%d, %d) = %d", a, b, got)
			}
		}
	}
}

// S1: the edges, written out.
func TestEdgesOf32(t *testing.T) {
	for _, c := range []struct {
		a, b, later uint32
		before      bool
		dist        int
	}{
		{7, 7, 7, false, 0},
		{7, 8, 8, true, 1},
		{8, 7, 8, false, -1},
		{5, 3, 5, false, -2},
		{top, 0, 0, true, 1},
		{0, top, 0, false, -1},
		{0, half - 1, half - 1, true, 1<<31 - 1},
		{half - 1, 0, half - 1, false, -(1<<31 - 1)},
		{0, half, 0, false, -1 << 31},
		{half, 0, half, false, -1 << 31},
		{0, half + 1, 0, false, -(1<<31 - 1)},
		{half + 9, 8, 8, true, 1<<31 - 1},
		{half + 9, 9, half + 9, false, -1 << 31},
	} {
		if got := serial.Before(c.a, c.b); got != c.before {
			t.Errorf("Before(%d, %d) = %v", c.a, c.b, got)
		}
		if got := serial.Dist(c.a, c.b); got != c.dist {
			t.Errorf("Dist(%d, %d) = %d", c.a, c.b, got)
		}
		if got := serial.Later(c.a, c.b); got != c.later {
			t.Errorf("Later(%d, %d) = %d", c.a, c.b, got)
		}
	}
}

// S1: every distance there is of 16 bits, from places all round.
func TestAllOf16(t *testing.T) {
	const round = int64(1) << 16
	for _, a := range []uint16{0, 1, 4711, 1<<15 - 1, 1 << 15, 1<<15 + 1, 1<<16 - 2, 1<<16 - 1} {
		for d := range 1 << 16 {
			b := a + uint16(d)
			if got := serial.Before16(a, b); got != (d >= 1 && d <= 1<<15-1) {
				t.Fatalf("Before16(%d, %d) = %v", a, b, got)
			}
			if got := serial.Dist16(a, b); int64(got) != dist(int64(a), int64(b), round) {
				t.Fatalf("Dist16(%d, %d) = %d", a, b, got)
			}
		}
	}
	if serial.Dist16(65535, 1) != 2 || serial.Dist16(0, 1<<15) != -1<<15 || serial.Dist16(1<<15, 0) != -1<<15 {
		t.Error("Dist16 at its edges")
	}
}

// S2.
func TestWithin(t *testing.T) {
	for _, c := range []struct {
		x, from, to uint32
		want        bool
	}{
		{5, 5, 5, true}, {4, 5, 5, false}, {6, 5, 5, false},
		{5, 5, 9, true}, {7, 5, 9, true}, {9, 5, 9, true}, {4, 5, 9, false}, {10, 5, 9, false},
		{top, top, 1, true}, {0, top, 1, true}, {1, top, 1, true}, {2, top, 1, false}, {top - 1, top, 1, false},
		{0, 0, top, true}, {top, 0, top, true}, {half, 0, top, true}, // all there are
		{3, 5, 4, true}, {4, 5, 4, true}, {5, 5, 4, true}, // all there are, from 5 on
		{4, 5, 3, false}, {half + 5, 5, 3, true}, // all but one
		{half, 0, half, true}, {half + 1, 0, half, false}, // longer than half the round
	} {
		if got := serial.Within(c.x, c.from, c.to); got != c.want {
			t.Errorf("Within(%d, %d, %d) = %v", c.x, c.from, c.to, got)
		}
	}
}

// S2: a row is what one meets on the way from its first number to its last.
func TestWithinWalked(t *testing.T) {
	for _, from := range edges() {
		for length := range uint32(12) {
			to := from + length
			for step := range uint32(40) {
				x := from - 14 + step
				want := step >= 14 && step <= 14+length
				if got := serial.Within(x, from, to); got != want {
					t.Errorf("Within(%d, %d, %d) = %v", x, from, to, got)
				}
			}
		}
	}
}

// S2.
func TestSorted(t *testing.T) {
	for _, c := range []struct {
		l    []uint32
		from uint32
		want []uint32
	}{
		{nil, 5, nil},
		{[]uint32{}, 5, nil},
		{[]uint32{9}, 9, []uint32{9}},
		{[]uint32{9, 9, 9}, 10, []uint32{9}},
		{[]uint32{3, 1, 2, top, 2}, top - 5, []uint32{top, 1, 2, 3}},
		{[]uint32{3, 1, 2, top, 2}, 0, []uint32{1, 2, 3, top}},
		{[]uint32{3, 1, 2, top, 2}, 2, []uint32{2, 3, top, 1}},
		{[]uint32{1, 2, 3}, 2, []uint32{2, 3, 1}},
		{[]uint32{half, 0, half - 1, half + 1}, 0, []uint32{0, half - 1, half, half + 1}},
		{[]uint32{half, 0, half - 1, half + 1}, half, []uint32{half, half + 1, 0, half - 1}},
		{[]uint32{4, 5, 6, 4, 5, 6}, 5, []uint32{5, 6, 4}},
	} {
		if got := serial.Sorted(c.l, c.from); !slices.Equal(got, c.want) {
			t.Errorf("Sorted(%v, %d) = %v", c.l, c.from, got)
		}
	}
}

// S2.
func TestRuns(t *testing.T) {
	for _, c := range []struct {
		l    []uint32
		from uint32
		want [][2]uint32
	}{
		{nil, 5, nil},
		{[]uint32{}, 0, nil},
		{[]uint32{5}, 5, [][2]uint32{{5, 5}}},
		{[]uint32{5}, 6, [][2]uint32{{5, 5}}},
		{[]uint32{5, 5}, 0, [][2]uint32{{5, 5}}},
		{[]uint32{5, 7}, 0, [][2]uint32{{5, 5}, {7, 7}}},
		{[]uint32{7, 6, 5}, 0, [][2]uint32{{5, 7}}},
		{[]uint32{3, 1, 2, top, 2}, top - 5, [][2]uint32{{top, top}, {1, 3}}},
		{[]uint32{top, 0, 1}, top - 5, [][2]uint32{{top, 1}}},
		{[]uint32{top, 0, 1}, 0, [][2]uint32{{0, 1}, {top, top}}},
		{[]uint32{top, 0, 1}, 1, [][2]uint32{{1, 1}, {top, 0}}},
		{[]uint32{4, 5, 6}, 5, [][2]uint32{{5, 6}, {4, 4}}},
		{[]uint32{0}, 0, [][2]uint32{{0, 0}}},
		{[]uint32{top}, 0, [][2]uint32{{top, top}}},
	} {
		if got := serial.Runs(c.l, c.from); !slices.Equal(got, c.want) {
			t.Errorf("Runs(%v, %d) = %v", c.l, c.from, got)
		}
	}
}

// lists are lists of numbers that lie close, so that many of them are told
// twice and many of them make rows, near each edge of the round.
func lists() [][]uint32 {
	chance := rand.New(rand.NewSource(1))
	var all [][]uint32
	for _, base := range edges() {
		for range 30 {
			l := make([]uint32, chance.Intn(40))
			for i := range l {
				l[i] = base - 16 + uint32(chance.Intn(32))
			}
			all = append(all, l)
		}
	}
	return all
}

// rank is how many unlike numbers of a list are less far above from than one is.
func rank(l []uint32, x, from uint32) int {
	const round = int64(1) << 32
	above := func(n uint32) int64 { return (int64(n) - int64(from) + round) % round }
	less := map[uint32]int{}
	for _, n := range l {
		if above(n) < above(x) {
			less[n]++
		}
	}
	return len(less)
}

// S2: each number of the list stands in Sorted once, where its rank says.
func TestSortedByRank(t *testing.T) {
	for i, l := range lists() {
		for _, from := range append(edges(), edges()[i/30]-20+uint32(i%40)) {
			got, unlike := serial.Sorted(l, from), map[uint32]int{}
			for _, n := range l {
				unlike[n]++
				if r := rank(l, n, from); r >= len(got) || got[r] != n {
					t.Fatalf("Sorted(%v, %d) = %v: %d is not number %d", l, from, got, n, r)
				}
			}
			if len(got) != len(unlike) {
				t.Fatalf("Sorted(%v, %d) = %v: not each once", l, from, got)
			}
		}
	}
}

// S2: the rows make up Sorted, and none of them could be longer.
func TestRunsMakeUpSorted(t *testing.T) {
	for i, l := range lists() {
		from := edges()[i/30] - 20 + uint32(i%40)
		var flat []uint32
		for j, run := range serial.Runs(l, from) {
			if j > 0 && run[0] != from && run[0] == flat[len(flat)-1]+1 {
				t.Fatalf("Runs(%v, %d): a row ends ahead of %d", l, from, run[0])
			}
			if serial.Within(from, run[0], run[1]) && from != run[0] {
				t.Fatalf("Runs(%v, %d): %v goes on into where all begins", l, from, run)
			}
			for x := run[0]; ; x++ {
				flat = append(flat, x)
				if x == run[1] {
					break
				}
			}
		}
		if want := serial.Sorted(l, from); !slices.Equal(flat, want) {
			t.Fatalf("Runs(%v, %d) hold %v, want %v", l, from, flat, want)
		}
	}
}

// S3: of two unlike numbers one is Before the other one.
func TestOneIsBefore(t *testing.T) {
	for _, a := range edges() {
		for _, b := range edges() {
			ways := 0
			if serial.Before(a, b) {
				ways++
			}
			if serial.Before(b, a) {
				ways++
			}
			want := 1
			if a == b || b-a == half {
				want = 0
			}
			if ways != want {
				t.Errorf("%d and %d are Before each other %d times", a, b, ways)
			}
		}
	}
	for d := range 1 << 16 {
		one, other := serial.Before16(40000, 40000+uint16(d)), serial.Before16(40000+uint16(d), 40000)
		if one && other || (one || other) != (d != 0 && d != 1<<15) {
			t.Fatalf("40000 and %d: %v, %v", 40000+uint16(d), one, other)
		}
	}
}

// S3: what is told of two numbers is told of them with the same one added.
func TestMovedNumbers(t *testing.T) {
	for _, by := range edges() {
		for _, a := range edges() {
			for _, b := range edges() {
				if serial.Before(a, b) != serial.Before(a+by, b+by) ||
					serial.Dist(a, b) != serial.Dist(a+by, b+by) ||
					serial.Later(a, b)+by != serial.Later(a+by, b+by) {
					t.Errorf("%d and %d, and %d more", a, b, by)
				}
				x, y, z := uint16(a), uint16(b), uint16(by)
				if serial.Before16(x, y) != serial.Before16(x+z, y+z) || serial.Dist16(x, y) != serial.Dist16(x+z, y+z) {
					t.Errorf("%d and %d, and %d more, of 16 bits", x, y, z)
				}
				for _, c := range edges() {
					if serial.Within(a, b, c) != serial.Within(a+by, b+by, c+by) {
						t.Errorf("%d in %d to %d, and %d more", a, b, c, by)
					}
				}
			}
		}
	}
}

// S3: and so it is of lists.
func TestMovedLists(t *testing.T) {
	for i, l := range lists() {
		from := edges()[i%len(edges())]
		for _, by := range edges() {
			moved := slices.Clone(l)
			for j := range moved {
				moved[j] += by
			}
			sorted := serial.Sorted(l, from)
			for j := range sorted {
				sorted[j] += by
			}
			if got := serial.Sorted(moved, from+by); !slices.Equal(got, sorted) {
				t.Fatalf("Sorted(%v, %d) moved by %d: %v", l, from, by, got)
			}
			runs := serial.Runs(l, from)
			for j := range runs {
				runs[j][0] += by
				runs[j][1] += by
			}
			if got := serial.Runs(moved, from+by); !slices.Equal(got, runs) {
				t.Fatalf("Runs(%v, %d) moved by %d: %v", l, from, by, got)
			}
		}
	}
}

// P1: lists that are long, and that hold all of one, end too.
func TestLongLists(t *testing.T) {
	const many = 1 << 18
	falling, same := make([]uint32, many), make([]uint32, many)
	for i := range falling {
		falling[i] = many/2 - uint32(i)
		same[i] = 7
	}
	first, last := falling[many-1], falling[0]
	if got := serial.Runs(falling, first); !slices.Equal(got, [][2]uint32{{first, last}}) {
		t.Error("a long row", len(got))
	}
	if got := serial.Runs(falling, 0); !slices.Equal(got, [][2]uint32{{0, last}, {first, top}}) {
		t.Error("a long row that is cut", len(got))
	}
	if got := serial.Sorted(same, 9); !slices.Equal(got, []uint32{7}) {
		t.Error("one number many times", len(got))
	}
}

// P3: nothing that is handed in is written into, nor what lies behind it.
func TestListsAreLeftAlone(t *testing.T) {
	whole := []uint32{3, 1, 2, top, 2, 77, 76}
	kept := slices.Clone(whole)
	l := whole[:5]
	if got := serial.Sorted(l, 0); !slices.Equal(got, []uint32{1, 2, 3, top}) {
		t.Error("Sorted", got)
	}
	if got := serial.Runs(l, 0); !slices.Equal(got, [][2]uint32{{1, 3}, {top, top}}) {
		t.Error("Runs", got)
	}
	if !slices.Equal(whole, kept) {
		t.Error("written into", whole)
	}
}

// P3: what is answered is new: it shares nothing with what was handed in,
// even where that was in order already.
func TestAnswersAreNew(t *testing.T) {
	l := []uint32{1, 2, 3}
	sorted := serial.Sorted(l, 0)
	for i := range sorted {
		sorted[i] = 99
	}
	sorted = append(sorted[:0], 98, 98, 98)
	if !slices.Equal(l, []uint32{1, 2, 3}) {
		t.Error("what is written into the answer is seen in the list", l)
	}
	again := serial.Sorted(l, 0)
	l[0], l[1], l[2] = 7, 7, 7
	if !slices.Equal(again, []uint32{1, 2, 3}) {
		t.Error("what is written into the list is seen in the answer", again)
	}
}

// P4: what is answered hangs on the numbers, not on how they lie in the list,
// nor on what was asked before.
func TestOrderOfListDoesNotMatter(t *testing.T) {
	chance := rand.New(rand.NewSource(2))
	for i, l := range lists() {
		from := edges()[i%len(edges())]
		sorted, runs := serial.Sorted(l, from), serial.Runs(l, from)
		mixed := slices.Clone(l)
		chance.Shuffle(len(mixed), func(a, b int) { mixed[a], mixed[b] = mixed[b], mixed[a] })
		if !slices.Equal(serial.Sorted(mixed, from), sorted) || !slices.Equal(serial.Runs(mixed, from), runs) {
			t.Fatalf("%v and %v, from %d", l, mixed, from)
		}
	}
}
