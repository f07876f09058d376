package rto_test

import (
	"math"
	"math/big"
	"math/rand"
	"sync"
	"testing"

	"towline/api"
	"towline/rto"
)

// edges are numbers on both sides of each bound that the chapter sets, and of
// those that an int has, with and without what is reckoned of them.
func edges() []int {
	l := []int{
		math.MinInt, math.MinInt + 1, math.MinInt / 2, math.MinInt/2 - 1, -1 << 62, -1 << 40, -60001, -60000, -1001, -1000, -2, -1,
		2, 3, 4, 7, 8, 9, 100, 499, 500, 501, 14749, 14750, 14751, 15000, 120000, 1 << 31, 1 << 40, 1 << 62, 1<<62 + 1,
		math.MaxInt / 4, math.MaxInt/4 + 1, math.MaxInt / 2, math.MaxInt/2 + 1, math.MaxInt - 60000, math.MaxInt - 1, math.MaxInt,
	}
	for _, bound := range []int{0, 1000, 30000, 60000, 1 << 20} {
		l = append(l, bound-1, bound, bound+1)
	}
	return l
}

// anyNumber is one of any size, or an edge.
func anyNumber(chance *rand.Rand) int {
	switch chance.Intn(4) {
	case 0:
		l := edges()
		return l[chance.Intn(len(l))]
	case 1:
		return int(chance.Uint64()) >> chance.Intn(64)
	}
	return chance.Intn(1 << (1 + chance.Intn(22)))
}

func anyTimer(chance *rand.Rand) rto.Timer {
	return rto.Timer{Srtt: anyNumber(chance), Var: anyNumber(chance), Rto: anyNumber(chance), Backs: anyNumber(chance), Known: chance.Intn(4) > 0}
}

// wide is a number that does not go round: the words are reckoned in these.
func wide(n int) *big.Int { return big.NewInt(int64(n)) }

func narrow(t *testing.T, n *big.Int) int {
	t.Helper()
	if !n.IsInt64() {
		t.Fatalf("the words make %s", n)
	}
	return int(n.Int64())
}

// made is a number that is "made least to most".
func made(n *big.Int, least, most int) *big.Int {
	switch {
	case n.Cmp(wide(least)) < 0:
		return wide(least)
	case n.Cmp(wide(most)) > 0:
		return wide(most)
	}
	return n
}

// parts is so many times a and b, a so-manieth of it, rounded towards 0.
func parts(times int, a, b *big.Int, of int) *big.Int {
	sum := new(big.Int).Mul(wide(times), a)
	sum.Add(sum, b)
	return sum.Quo(sum, wide(of))
}

// rtoByTheWords is Srtt + 4 Var, made 1000 to 60000.
func rtoByTheWords(srtt, spread *big.Int) *big.Int {
	return made(parts(4, spread, srtt, 1), 1000, 60000)
}

func sampleByTheWords(t *testing.T, x rto.Timer, sample int) rto.Timer {
	t.Helper()
	r := made(wide(sample), 0, 60000)
	srtt, spread := r, parts(0, r, r, 2)
	if x.Known {
		wasSrtt, wasVar := made(wide(x.Srtt), 0, 1048576), made(wide(x.Var), 0, 1048576)
		far := new(big.Int).Sub(wasSrtt, r)
		spread = parts(3, wasVar, far.Abs(far), 4)
		srtt = parts(7, wasSrtt, r, 8)
	}
	return rto.Timer{Srtt: narrow(t, srtt), Var: narrow(t, spread), Rto: narrow(t, rtoByTheWords(srtt, spread)), Known: true}
}

func backByTheWords(t *testing.T, x rto.Timer) rto.Timer {
	t.Helper()
	twice := parts(2, made(wide(x.Rto), 0, 60000), wide(0), 1)
	x.Rto = narrow(t, made(twice, 1000, 60000))
	backs := parts(1, wide(x.Backs), wide(1), 1)
	if backs.Cmp(wide(1000)) > 0 {
		backs = wide(1000)
	}
	x.Backs = narrow(t, backs)
	return x
}

func goodByTheWords(t *testing.T, x rto.Timer) rto.Timer {
	t.Helper()
	x.Rto, x.Backs = 1000, 0
	if x.Known {
		x.Rto = narrow(t, rtoByTheWords(made(wide(x.Srtt), 0, 1048576), made(wide(x.Var), 0, 1048576)))
	}
	return x
}

func beatByTheWords(t *testing.T, x rto.Timer, every int) int {
	t.Helper()
	return narrow(t, parts(1, made(wide(x.Rto), 0, 1048576), made(wide(every), 0, 1048576), 1))
}

// wantSample holds what Sample tells against the words; wantOthers all else.
func wantSample(t *testing.T, x rto.Timer, r int) {
	t.Helper()
	if got, want := rto.Sample(x, r), sampleByTheWords(t, x, r); got != want {
		t.Errorf("Sample(%+v, %d) told %+v, want %+v", x, r, got, want)
	}
}

func wantOthers(t *testing.T, x rto.Timer, every int) {
	t.Helper()
	if got, want := rto.Back(x), backByTheWords(t, x); got != want {
		t.Errorf("Back(%+v) told %+v, want %+v", x, got, want)
	}
	if got, want := rto.Good(x), goodByTheWords(t, x); got != want {
		t.Errorf("Good(%+v) told %+v, want %+v", x, got, want)
	}
	if got, want := rto.Beat(x, every), beatByTheWords(t, x, every); got != want {
		t.Errorf("Beat(%+v, %d) told %d, want %d", x, every, got, want)
	}
}

// The chapter's examples.
func TestExamples(t *testing.T) {
	x := rto.Sample(rto.New(), 500)
	if x.Srtt != 500 || x.Var != 250 || x.Rto != 1500 {
		t.Errorf("500: %+v", x)
	}
	x = rto.Sample(x, 100)
	if x.Srtt != 450 || x.Var != 287 || x.Rto != 1598 {
		t.Errorf("then 100: %+v", x)
	}
	x = rto.New()
	for range 6 {
		x = rto.Back(x)
	}
	if x.Rto != 60000 {
		t.Errorf("Back six times: %+v", x)
	}
}

// R1.
func TestNew(t *testing.T) {
	want := rto.Timer{Srtt: 0, Var: 0, Rto: 1000, Backs: 0, Known: false}
	for range 2 {
		if x := rto.New(); x != want || x.Rto != api.RtoInitial {
			t.Errorf("New told %+v", x)
		}
		x := rto.New()
		x.Rto, x.Backs, x.Known = 7, 7, true
	}
}

// R2: the first sample, each there is; nothing else of the timer matters.
func TestFirstSample(t *testing.T) {
	for r := -3; r <= 60003; r++ {
		in := min(max(r, 0), 60000)
		want := rto.Timer{Srtt: in, Var: in / 2, Rto: min(max(in+4*(in/2), 1000), 60000), Known: true}
		for _, x := range []rto.Timer{rto.New(), {}, {Srtt: -7, Var: 1 << 40, Rto: math.MinInt, Backs: 3}, {Srtt: 700, Var: 70, Rto: 5000, Backs: math.MaxInt}} {
			if got := rto.Sample(x, r); got != want {
				t.Fatalf("Sample(%+v, %d) told %+v, want %+v", x, r, got, want)
			}
		}
	}
}

// R2: samples and what they make, written out.
func TestKnownSamples(t *testing.T) {
	known := func(srtt, spread int) rto.Timer { return rto.Timer{Srtt: srtt, Var: spread, Known: true} }
	for _, c := range []struct {
		x               rto.Timer
		r               int
		srtt, spread, w int
	}{
		{rto.New(), 0, 0, 0, 1000},
		{rto.New(), 1, 1, 0, 1000},
		{rto.New(), 3, 3, 1, 1000},
		{rto.New(), 333, 333, 166, 1000}, // 997
		{rto.New(), 334, 334, 167, 1002},
		{rto.New(), 20000, 20000, 10000, 60000},
		{rto.New(), 19999, 19999, 9999, 59995},
		{rto.New(), 60000, 60000, 30000, 60000},
		{rto.New(), 60001, 60000, 30000, 60000},
		{rto.New(), -1, 0, 0, 1000},
		{known(0, 0), 0, 0, 0, 1000},
		{known(0, 0), 7, 0, 1, 1000},
		{known(0, 0), 8, 1, 2, 1000},
		{known(8, 0), 0, 7, 2, 1000},
		{known(1, 1), 0, 0, 1, 1000},
		{known(700, 300), 700, 700, 225, 1600},
		{known(700, 300), 300, 650, 325, 1950}, // Var goes by the Srtt that was: by 650 it would be 312
		{known(700, 300), 1100, 750, 325, 2050},
		{known(999, 0), 999, 999, 0, 1000},
		{known(1000, 0), 1000, 1000, 0, 1000},
		{known(1001, 0), 1001, 1001, 0, 1001},
		{known(59999, 0), 59999, 59999, 0, 59999},
		{known(60000, 0), 60000, 60000, 0, 60000},
		{known(60000, 1), 60000, 60000, 0, 60000},
		{known(60000, 2), 60000, 60000, 1, 60000},
		{known(1<<20, 1<<20), 60000, 925004, 1033576, 60000},
		{known(1<<20+1, 1<<20+1), 60000, 925004, 1033576, 60000},
		{known(math.MaxInt, math.MaxInt), math.MaxInt, 925004, 1033576, 60000},
		{known(1<<20-1, 1<<20-1), 0, 917503, 1048575, 60000},
		{known(-1, -1), 0, 0, 0, 1000},
		{known(-1, -1), 8000, 1000, 2000, 9000},
		{known(math.MinInt, math.MinInt), math.MinInt, 0, 0, 1000},
	} {
		want := rto.Timer{Srtt: c.srtt, Var: c.spread, Rto: c.w, Known: true}
		if got := rto.Sample(c.x, c.r); got != want {
			t.Errorf("Sample(%+v, %d) told %+v, want %+v", c.x, c.r, got, want)
		}
		x := c.x
		x.Rto, x.Backs = 31, 1001
		if got := rto.Sample(x, c.r); got != want {
			t.Errorf("Sample(%+v, %d) told %+v, want %+v", x, c.r, got, want)
		}
	}
}

// R2: all that is at and past a bound, against the words.
func TestSampleAtEdges(t *testing.T) {
	for _, srtt := range edges() {
		for _, spread := range edges() {
			for _, r := range edges() {
				wantSample(t, rto.Timer{Srtt: srtt, Var: spread, Rto: r, Backs: spread, Known: true}, r)
			}
			wantSample(t, rto.Timer{Srtt: srtt, Var: spread, Rto: spread, Backs: srtt}, spread)
		}
	}
}

// R2: all small timers and samples: what is rounded, and how.
func TestSampleRounds(t *testing.T) {
	for srtt := range 18 {
		for spread := range 10 {
			for r := range 18 {
				wantSample(t, rto.Timer{Srtt: srtt, Var: spread, Rto: 1000, Known: true}, r)
			}
		}
	}
}

// R3: Rto by Back and by Good, written out.
func TestKnownWaits(t *testing.T) {
	for before, after := range map[int]int{
		math.MinInt: 1000, -1: 1000, 0: 1000, 1: 1000, 499: 1000, 500: 1000, 501: 1002, 1000: 2000, 1001: 2002, 29999: 59998, 30000: 60000, 30001: 60000,
		59999: 60000, 60000: 60000, 60001: 60000, 1 << 20: 60000, math.MaxInt/2 + 1: 60000, math.MaxInt: 60000,
	} {
		for _, x := range []rto.Timer{{Srtt: 3, Var: 4, Known: true}, {Srtt: -1, Var: 1 << 60}} {
			want := x
			x.Rto, want.Rto, want.Backs = before, after, 1
			if got := rto.Back(x); got != want {
				t.Errorf("Back(%+v) told %+v, want %+v", x, got, want)
			}
		}
	}
	for _, c := range []struct{ srtt, spread, want int }{
		{0, 0, 1000}, {999, 0, 1000}, {0, 249, 1000}, {0, 250, 1000}, {0, 251, 1004}, {1000, 0, 1000}, {1001, 0, 1001}, {700, 100, 1100}, {997, 1, 1001},
		{59999, 0, 59999}, {60000, 0, 60000}, {60001, 0, 60000}, {0, 15000, 60000}, {0, 14999, 59996}, {3, 14999, 59999}, {1 << 20, 1 << 20, 60000},
		{-1, 500, 2000}, {-1000, 500, 2000}, {math.MinInt, 500, 2000}, {5000, -1, 5000}, {5000, -500, 5000}, {5000, math.MinInt, 5000},
		{math.MaxInt, 0, 60000}, {0, math.MaxInt, 60000}, {math.MaxInt, math.MaxInt, 60000}, {math.MinInt, math.MaxInt, 60000}, {math.MaxInt, math.MinInt, 60000},
		{0, 1 << 62, 60000}, {5000, 1 << 62, 60000}, {math.MinInt, math.MinInt, 1000},
	} {
		for _, was := range []rto.Timer{{}, {Rto: 60000, Backs: 9}, {Rto: -4, Backs: -4}, {Rto: math.MaxInt, Backs: math.MaxInt}} {
			x := rto.Timer{Srtt: c.srtt, Var: c.spread, Rto: was.Rto, Backs: was.Backs, Known: true}
			if got, want := rto.Good(x), (rto.Timer{Srtt: c.srtt, Var: c.spread, Rto: c.want, Known: true}); got != want {
				t.Errorf("Good(%+v) told %+v, want %+v", x, got, want)
			}
			x.Known = false
			if got, want := rto.Good(x), (rto.Timer{Srtt: c.srtt, Var: c.spread, Rto: 1000}); got != want {
				t.Errorf("Good(%+v) told %+v, want %+v", x, got, want)
			}
		}
	}
}

// R3: Backs by Back, written out, and one after another.
func TestBacks(t *testing.T) {
	for before, after := range map[int]int{
		math.MinInt: math.MinInt + 1, -5: -4, -1: 0, 0: 1, 1: 2, 998: 999, 999: 1000, 1000: 1000, 1001: 1000, 5000: 1000, math.MaxInt - 1: 1000, math.MaxInt: 1000,
	} {
		if got := rto.Back(rto.Timer{Rto: 1000, Backs: before}); got.Backs != after {
			t.Errorf("Backs %d became %d, want %d", before, got.Backs, after)
		}
	}
	x := rto.Sample(rto.New(), 500)
	for i := 1; i <= 1100; i++ {
		x = rto.Back(x)
		if want := (rto.Timer{Srtt: 500, Var: 250, Rto: min(1500<<min(i, 10), 60000), Backs: min(i, 1000), Known: true}); x != want {
			t.Fatalf("Back, time %d: %+v, want %+v", i, x, want)
		}
	}
	if y := rto.Good(x); y != rto.Sample(rto.New(), 500) {
		t.Errorf("Good(%+v) told %+v", x, y)
	}
	if y := rto.Sample(x, 500); y.Backs != 0 || y.Rto != 500+4*187 {
		t.Errorf("Sample(%+v, 500) told %+v", x, y)
	}
}

// R3: Beat, written out.
func TestKnownBeats(t *testing.T) {
	for _, c := range []struct{ wait, every, want int }{
		{1500, 30000, 31500}, {0, 0, 0}, {1, 0, 1}, {0, 1, 1}, {1000, -1, 1000}, {-1, 1000, 1000}, {-1, -1, 0}, {60001, 1, 60002}, {60000, 60001, 120001},
		{1<<20 - 1, 1, 1 << 20}, {1 << 20, 1, 1<<20 + 1}, {1<<20 + 1, 1, 1<<20 + 1}, {1, 1<<20 - 1, 1 << 20}, {1, 1 << 20, 1<<20 + 1}, {1, 1<<20 + 1, 1<<20 + 1},
		{1 << 20, 1 << 20, 1 << 21}, {math.MaxInt, math.MaxInt, 1 << 21}, {math.MinInt, math.MinInt, 0}, {math.MinInt, math.MaxInt, 1 << 20}, {math.MaxInt, math.MinInt, 1 << 20},
	} {
		for _, x := range []rto.Timer{{}, {Srtt: 9, Var: 9, Backs: 9, Known: true}, {Srtt: -9, Var: math.MaxInt, Backs: math.MinInt}} {
			x.Rto = c.wait
			if got := rto.Beat(x, c.every); got != c.want {
				t.Errorf("Beat(%+v, %d) told %d, want %d", x, c.every, got, c.want)
			}
		}
	}
}

// R3: all that is at and past a bound, against the words.
func TestOthersAtEdges(t *testing.T) {
	for _, a := range edges() {
		for _, b := range edges() {
			for _, known := range []bool{false, true} {
				wantOthers(t, rto.Timer{Srtt: a, Var: b, Rto: a, Backs: b, Known: known}, b)
				wantOthers(t, rto.Timer{Srtt: 700, Var: a, Rto: b, Backs: a, Known: known}, a)
				wantOthers(t, rto.Timer{Srtt: a, Var: 70, Rto: 3000, Backs: b, Known: known}, b)
			}
		}
	}
}

// R2, R3: any timers and numbers against the words; and rows of calls, each of
// what the one ahead told.
func TestAnything(t *testing.T) {
	chance := rand.New(rand.NewSource(1))
	for range 50000 {
		x := anyTimer(chance)
		wantSample(t, x, anyNumber(chance))
		wantOthers(t, x, anyNumber(chance))
	}
	for range 300 {
		x := rto.New()
		for range 100 {
			r := anyNumber(chance)
			wantSample(t, x, r)
			wantOthers(t, x, r)
			x = []rto.Timer{rto.Sample(x, r), rto.Sample(x, chance.Intn(3000)), rto.Back(x), rto.Good(x)}[chance.Intn(4)]
		}
	}
}

// R4: Rto that is told is 1000 to 60000, of whatever timer; Back makes none of
// these less.
func TestRtoIsBounded(t *testing.T) {
	chance := rand.New(rand.NewSource(2))
	for range 50000 {
		x, r := anyTimer(chance), anyNumber(chance)
		for what, told := range map[string]rto.Timer{"Sample": rto.Sample(x, r), "Back": rto.Back(x), "Good": rto.Good(x)} {
			if told.Rto < 1000 || told.Rto > 60000 {
				t.Errorf("%s of %+v, %d told %+v", what, x, r, told)
			}
			if again := rto.Back(told); again.Rto < told.Rto {
				t.Errorf("Back(%+v) told %+v", told, again)
			}
		}
	}
	for wait := 1000; wait <= 60000; wait++ {
		if x := rto.Back(rto.Timer{Rto: wait}); x.Rto != min(2*wait, 60000) {
			t.Errorf("Back of Rto %d told %+v", wait, x)
		}
	}
}

// R4: with samples that are all the same, Srtt does not go away from them.
func TestSameSamples(t *testing.T) {
	chance := rand.New(rand.NewSource(3))
	far := func(x rto.Timer, r int) int { return max(x.Srtt-r, r-x.Srtt) }
	for range 2000 {
		x, r := rto.Sample(rto.New(), chance.Intn(60001)), chance.Intn(60001)
		for range chance.Intn(4) {
			x = rto.Sample(x, anyNumber(chance))
		}
		for range 200 {
			next := rto.Sample(x, r)
			if far(next, r) > far(x, r) {
				t.Fatalf("Sample(%+v, %d) told %+v", x, r, next)
			}
			x = next
		}
		if far(x, r) > 7 { // as near as the rounding lets it come
			t.Errorf("after 200 samples of %d: %+v", r, x)
		}
	}
}

// P4 of all: what is told hangs on nothing but what is handed in, whatever was
// asked before, or is asked at one time.
func TestAskedTogether(t *testing.T) {
	var asked sync.WaitGroup
	for from := range 8 {
		asked.Go(func() {
			chance := rand.New(rand.NewSource(int64(from)))
			x := anyTimer(chance)
			for range 1000 {
				r := anyNumber(chance)
				first, back, good, beat := rto.Sample(x, r), rto.Back(x), rto.Good(x), rto.Beat(x, r)
				y := rto.Back(rto.Sample(anyTimer(chance), anyNumber(chance)))
				if rto.Sample(x, r) != first || rto.Back(x) != back || rto.Good(x) != good || rto.Beat(x, r) != beat || rto.New() != (rto.Timer{Rto: 1000}) {
					t.Errorf("%+v, %d: told otherwise the second time", x, r)
				}
				x = []rto.Timer{first, back, good, y}[chance.Intn(4)]
			}
		})
	}
	asked.Wait()
}
