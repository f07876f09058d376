package window_test

import (
	"math"
	"math/rand"
	"slices"
	"sync"
	"testing"

	"towline/window"
)

// edges are numbers on both sides of each bound that the chapter sets, and of
// those that an int has, with and without what is reckoned of them.
func edges() []int {
	l := []int{
		math.MinInt, math.MinInt + 1, math.MinInt/2 - 1, math.MinInt / 2, -1 << 40, -1 << 31, -1 << 30, -6000, -1500, -2,
		2, 3, 749, 750, 2999, 3000, 3001, 12002, 12003, 65535, 1 << 20, 1 << 31, 1<<31 + 4500, 1 << 32, 1<<32 + 4500, 1 << 40, 1 << 62,
		math.MaxInt/2 - 1, math.MaxInt / 2, math.MaxInt/2 + 1, math.MaxInt - 1500, math.MaxInt - 1, math.MaxInt,
	}
	for _, bound := range []int{0, 1500, 4500, 6000, 12000, 1 << 29, 1<<30 - 1500, 1 << 30} {
		l = append(l, bound-1, bound, bound+1)
	}
	return l
}

// anyNumber is one of any size, or an edge.
func anyNumber(chance *rand.Rand) int {
	switch chance.Intn(4) {
	case 0:
		l := edges()
		return l[chance.Intn(len(l))]
	case 1:
		return int(chance.Uint64()) >> chance.Intn(64)
	}
	return chance.Intn(1 << (1 + chance.Intn(32)))
}

// nearTo is a number by one that another is held against, or any.
func nearTo(chance *rand.Rand, n int) int {
	if chance.Intn(3) == 0 {
		return anyNumber(chance)
	}
	return n + chance.Intn(3) - 1
}

func anyWindow(chance *rand.Rand) window.Window {
	cwnd := anyNumber(chance)
	return window.Window{Cwnd: cwnd, Ssthresh: nearTo(chance, cwnd), Partial: nearTo(chance, cwnd)}
}

// made is a number that is "made least to most".
func made(n, least, most int) int {
	if n < least {
		return least
	}
	if n > most {
		return most
	}
	return n
}

const most = 1073741824

func asWordsSay(w window.Window) window.Window {
	return window.Window{Cwnd: made(w.Cwnd, 1500, most), Ssthresh: made(w.Ssthresh, 0, most), Partial: made(w.Partial, 0, most)}
}

func mayByTheWords(w window.Window, out int) bool {
	return made(out, 0, most) < made(w.Cwnd, 1500, most)
}

func slowByTheWords(w window.Window) bool {
	return !(made(w.Cwnd, 1500, most) > made(w.Ssthresh, 0, most))
}

func ackedByTheWords(w window.Window, bytes, out int, moved bool) window.Window {
	x := asWordsSay(w)
	if !moved {
		return x
	}
	bytes, out = made(bytes, 0, most), made(out, 0, most)
	if slowByTheWords(x) {
		more := 0
		if out >= x.Cwnd {
			more = bytes
		}
		if more > 1500 {
			more = 1500
		}
		return asWordsSay(window.Window{Cwnd: x.Cwnd + more, Ssthresh: x.Ssthresh})
	}
	partial, cwnd := x.Partial+bytes, x.Cwnd
	if !(partial < x.Cwnd) && !(out < x.Cwnd) {
		partial, cwnd = partial-x.Cwnd, x.Cwnd+1500
	}
	if bytes == out {
		partial = 0
	}
	return asWordsSay(window.Window{Cwnd: cwnd, Ssthresh: x.Ssthresh, Partial: partial})
}

// halfByTheWords is the greater of Cwnd / 2 and 6000.
func halfByTheWords(w window.Window) int {
	cwnd := made(w.Cwnd, 1500, most)
	if cwnd < 12002 { // 12001 / 2 is 6000
		return 6000
	}
	return (cwnd - cwnd%2) / 2
}

func lostByTheWords(w window.Window) window.Window {
	half := halfByTheWords(w)
	return window.Window{Cwnd: half, Ssthresh: half}
}

func timeoutByTheWords(w window.Window) window.Window {
	return window.Window{Cwnd: 1500, Ssthresh: halfByTheWords(w)}
}

func idleByTheWords(w window.Window) window.Window {
	x := asWordsSay(w)
	if half := halfByTheWords(w); half < x.Cwnd {
		x.Cwnd = half
	}
	return x
}

// wantAcked holds what Acked tells against the words; wantOthers all else.
func wantAcked(t *testing.T, w window.Window, bytes, out int, moved bool) {
	t.Helper()
	if got, want := window.Acked(w, bytes, out, moved), ackedByTheWords(w, bytes, out, moved); got != want {
		t.Errorf("Acked(%+v, %d, %d, %t) told %+v, want %+v", w, bytes, out, moved, got, want)
	}
}

func wantOthers(t *testing.T, w window.Window, out int) {
	t.Helper()
	if got, want := window.May(w, out), mayByTheWords(w, out); got != want {
		t.Errorf("May(%+v, %d) told %t", w, out, got)
	}
	if got, want := window.Slow(w), slowByTheWords(w); got != want {
		t.Errorf("Slow(%+v) told %t", w, got)
	}
	if got, want := window.Lost(w), lostByTheWords(w); got != want {
		t.Errorf("Lost(%+v) told %+v, want %+v", w, got, want)
	}
	if got, want := window.Timeout(w), timeoutByTheWords(w); got != want {
		t.Errorf("Timeout(%+v) told %+v, want %+v", w, got, want)
	}
	if got, want := window.Idle(w), idleByTheWords(w); got != want {
		t.Errorf("Idle(%+v) told %+v, want %+v", w, got, want)
	}
}

func of(cwnd, ssthresh, partial int) window.Window {
	return window.Window{Cwnd: cwnd, Ssthresh: ssthresh, Partial: partial}
}

// The chapter's examples.
func TestExamples(t *testing.T) {
	w := window.New(60000)
	if w != of(4500, 60000, 0) {
		t.Errorf("New(60000) told %+v", w)
	}
	if w = window.Acked(w, 1500, 4500, true); w != of(6000, 60000, 0) {
		t.Errorf("Acked of that told %+v", w)
	}
	if w = window.Timeout(of(12000, 60000, 5)); w != of(1500, 6000, 0) {
		t.Errorf("Timeout told %+v", w)
	}
	if window.Mtu != 1500 {
		t.Errorf("Mtu is %d", window.Mtu)
	}
}

// W1: New, of each peer at and past a bound.
func TestNew(t *testing.T) {
	for peer, ssthresh := range map[int]int{
		math.MinInt: 0, -4500: 0, -1: 0, 0: 0, 1: 1, 1499: 1499, 4404: 4404, 4499: 4499, 4500: 4500, 4501: 4501, 60000: 60000, 1<<30 - 1: 1<<30 - 1,
		1 << 30: 1 << 30, 1<<30 + 1: 1 << 30, 1<<32 + 1: 1 << 30, math.MaxInt: 1 << 30,
	} {
		if w := window.New(peer); w != of(4500, ssthresh, 0) {
			t.Errorf("New(%d) told %+v", peer, w)
		}
	}
	for _, peer := range edges() {
		if w := window.New(peer); w != asWordsSay(of(4500, peer, 0)) {
			t.Errorf("New(%d) told %+v", peer, w)
		}
	}
}

// W1: May and Slow, written out; nothing else of the window matters.
func TestKnownRoom(t *testing.T) {
	for _, c := range []struct {
		cwnd, out int
		want      bool
	}{
		{4500, 0, true}, {4500, 4499, true}, {4500, 4500, false}, {4500, 4501, false}, {4500, -1, true}, {4500, math.MinInt, true}, {4500, math.MaxInt, false},
		{1500, 1499, true}, {1500, 1500, false}, {1499, 1499, true}, {1499, 1500, false}, {1501, 1500, true}, {0, 1499, true}, {0, 1500, false},
		{-1, 0, true}, {-1, 1499, true}, {-1, 1500, false}, {math.MinInt, math.MinInt, true}, {math.MinInt, 1500, false},
		{1 << 30, 1<<30 - 1, true}, {1 << 30, 1 << 30, false}, {1<<30 + 1, 1 << 30, false}, {1<<30 + 2, 1<<30 + 1, false}, {1<<30 - 1, 1<<30 - 2, true}, {1<<30 - 1, 1<<30 - 1, false},
		{math.MaxInt, 1<<30 - 1, true}, {math.MaxInt, 1 << 30, false}, {math.MaxInt, math.MaxInt - 1, false}, {1<<32 + 1, 1, true},
	} {
		for _, rest := range []int{0, 7000, -1, math.MaxInt, math.MinInt} {
			if got := window.May(of(c.cwnd, rest, rest), c.out); got != c.want {
				t.Errorf("May of Cwnd %d, %d told %t", c.cwnd, c.out, got)
			}
		}
	}
}

func TestKnownBeginnings(t *testing.T) {
	for _, c := range []struct {
		cwnd, ssthresh int
		want           bool
	}{
		{4500, 60000, true}, {4500, 4501, true}, {4500, 4500, true}, {4500, 4499, false}, {4500, 0, false}, {4500, -1, false}, {4500, math.MaxInt, true},
		{1500, 1500, true}, {1499, 1499, false}, {1499, 1500, true}, {0, 0, false}, {0, 1499, false}, {0, 1500, true}, {-5, -5, false}, {-5, 1500, true}, {-1501, -1500, false},
		{math.MinInt, math.MinInt, false}, {math.MinInt, 1499, false}, {math.MinInt, 1500, true},
		{1 << 30, 1 << 30, true}, {1<<30 + 1, 1 << 30, true}, {1 << 30, 1<<30 - 1, false}, {1<<30 + 1, 1<<30 - 1, false}, {math.MaxInt, 1 << 30, true}, {math.MaxInt, 1 << 31, true}, {math.MaxInt, 1<<30 - 1, false},
		{1<<32 + 1500, 1600, false}, {1600, 1<<32 + 1500, true},
	} {
		for _, partial := range []int{0, 7000, -1, math.MaxInt, math.MinInt} {
			if got := window.Slow(of(c.cwnd, c.ssthresh, partial)); got != c.want {
				t.Errorf("Slow of %d, %d, %d told %t", c.cwnd, c.ssthresh, partial, got)
			}
		}
	}
}

// W2: of what did not move the cumulative number nothing grows.
func TestNotMoved(t *testing.T) {
	for _, c := range []struct{ w, want window.Window }{
		{of(4500, 60000, 0), of(4500, 60000, 0)},
		{of(4500, 60000, 9), of(4500, 60000, 9)},
		{of(9000, 8000, 8999), of(9000, 8000, 8999)},
		{of(9000, 8000, 9001), of(9000, 8000, 9001)},
		{of(1499, -1, -1), of(1500, 0, 0)},
		{of(1<<30+1, 1<<30+1, 1<<30+1), of(1<<30, 1<<30, 1<<30)},
		{of(math.MinInt, math.MinInt, math.MinInt), of(1500, 0, 0)},
		{of(math.MaxInt, math.MaxInt, math.MaxInt), of(1<<30, 1<<30, 1<<30)},
	} {
		for _, bytes := range edges() {
			for _, out := range edges() {
				if got := window.Acked(c.w, bytes, out, false); got != c.want {
					t.Errorf("Acked(%+v, %d, %d, false) told %+v, want %+v", c.w, bytes, out, got, c.want)
				}
			}
		}
	}
}

// W2: how it grows fast, and how it does else, written out.
func TestKnownGrowth(t *testing.T) {
	for _, c := range []struct {
		w          window.Window
		bytes, out int
		want       window.Window
	}{
		// Slow: by what came, by a packet at most, if it was full.
		{of(4500, 60000, 0), 0, 4500, of(4500, 60000, 0)},
		{of(4500, 60000, 0), 1, 4500, of(4501, 60000, 0)},
		{of(4500, 60000, 0), 1499, 4500, of(5999, 60000, 0)},
		{of(4500, 60000, 0), 1501, 4500, of(6000, 60000, 0)},
		{of(4500, 60000, 0), 4500, 4500, of(6000, 60000, 0)},
		{of(4500, 60000, 0), -1, 4500, of(4500, 60000, 0)},
		{of(4500, 60000, 0), math.MinInt, math.MaxInt, of(4500, 60000, 0)},
		{of(4500, 60000, 0), math.MaxInt, math.MaxInt, of(6000, 60000, 0)},
		{of(4500, 60000, 0), 1500, 4501, of(6000, 60000, 0)},
		{of(4500, 60000, 0), 1500, 4499, of(4500, 60000, 0)},
		{of(4500, 60000, 0), 1500, -4500, of(4500, 60000, 0)},
		{of(4500, 60000, 7), 1500, 4499, of(4500, 60000, 0)},
		{of(4500, 60000, 7), 1500, 4500, of(6000, 60000, 0)},
		{of(4500, 60000, 4500), 1500, 4500, of(6000, 60000, 0)},
		{of(4500, 4500, 7), 1000, 4500, of(5500, 4500, 0)},
		{of(0, 1500, 7), 1000, 1500, of(2500, 1500, 0)},
		{of(0, 1500, 7), 1000, 1499, of(1500, 1500, 0)},
		{of(1<<30, 1<<30, 7), 1000, 1 << 30, of(1<<30, 1<<30, 0)},
		{of(1<<30-1, 1<<30, 0), 1000, 1 << 30, of(1<<30, 1<<30, 0)},
		{of(1<<30-1000, 1<<30, 0), 1000, 1 << 30, of(1<<30, 1<<30, 0)},
		{of(1<<30-1001, 1<<30, 0), 1000, 1 << 30, of(1<<30-1, 1<<30, 0)},
		{of(math.MaxInt, math.MaxInt, math.MaxInt), math.MaxInt, math.MaxInt, of(1<<30, 1<<30, 0)},
		// Else: by a packet, when as much as the window came, if it was full.
		{of(9000, 8000, 100), 8899, 9000, of(9000, 8000, 8999)},
		{of(9000, 8000, 100), 8900, 9000, of(10500, 8000, 0)},
		{of(9000, 8000, 100), 8901, 9000, of(10500, 8000, 1)},
		{of(9000, 8000, 100), 8901, 9001, of(10500, 8000, 1)},
		{of(9000, 8000, 100), 8901, 8999, of(9000, 8000, 9001)},
		{of(9000, 8000, 9000), 0, 9000, of(10500, 8000, 0)},
		{of(9000, 8000, 9000), 0, 8999, of(9000, 8000, 9000)},
		{of(9000, 8000, 20000), 0, 9000, of(10500, 8000, 11000)},
		{of(9000, 8000, 100), 0, 0, of(9000, 8000, 0)},
		{of(9000, 8000, 100), -1, 0, of(9000, 8000, 0)},
		{of(9000, 8000, 100), 0, -1, of(9000, 8000, 0)},
		{of(9000, 8000, 100), -1, 1, of(9000, 8000, 100)},
		{of(9000, 8000, 100), 1, -1, of(9000, 8000, 101)},
		{of(9000, 8000, 100), 500, 500, of(9000, 8000, 0)},
		{of(9000, 8000, 100), 500, 501, of(9000, 8000, 600)},
		{of(9000, 8000, 100), 501, 500, of(9000, 8000, 601)},
		{of(9000, 8000, 100), 9000, 9000, of(10500, 8000, 0)},
		{of(9000, 8000, 100), 9001, 9001, of(10500, 8000, 0)},
		{of(9000, 8000, 100), 8999, 8999, of(9000, 8000, 0)},
		{of(9000, 8000, -100), 8999, 9000, of(9000, 8000, 8999)},
		{of(9000, 8999, 0), 9100, 9000, of(10500, 8999, 100)},
		{of(9000, -8000, 0), 9100, 9000, of(10500, 0, 100)},
		{of(9000, 9000, 0), 9100, 9000, of(10500, 9000, 0)}, // Slow
		{of(0, 1499, 0), 1500, 1501, of(3000, 1499, 0)},
		{of(0, 1499, 0), 1499, 1501, of(1500, 1499, 1499)},
		{of(1<<30, 0, 0), 1<<30 - 1, 1 << 30, of(1<<30, 0, 1<<30-1)},
		{of(1<<30, 0, 1), 1<<30 - 1, 1 << 30, of(1<<30, 0, 0)},
		{of(1<<30, 0, 5), 1<<30 - 1, 1 << 30, of(1<<30, 0, 4)},
		{of(1<<30-1501, 0, 0), 1<<30 - 1501, 1 << 30, of(1<<30-1, 0, 0)},
		{of(1<<30-1499, 0, 0), 1<<30 - 1499, 1 << 30, of(1<<30, 0, 0)},
		// Partial is made 0 to 2^30 at the end, and not ahead of it.
		{of(1500, 0, 1<<30), 1000, 1 << 30, of(3000, 0, 1<<30-500)},
		{of(1500, 0, 1<<30), 1 << 30, 1<<30 - 1, of(3000, 0, 1<<30)},
		{of(9000, 0, 1<<30), 1, 8999, of(9000, 0, 1<<30)},
		// What is handed in is made so ahead of all else.
		{of(9000, 0, math.MaxInt), math.MaxInt, 8999, of(9000, 0, 1<<30)},
		{of(9000, 0, 1<<30), math.MaxInt, 1<<30 - 1, of(10500, 0, 1<<30)},
		{of(9000, 0, 5), math.MaxInt, 1 << 30, of(10500, 0, 0)},
		{of(9000, 0, 5), 1 << 30, math.MaxInt, of(10500, 0, 0)},
		{of(9000, 0, 5), 1<<30 + 1, math.MaxInt, of(10500, 0, 0)},
		{of(9000, 0, 5), math.MinInt, -1, of(9000, 0, 0)},
		{of(9000, 0, 9000), 0, math.MaxInt, of(10500, 0, 0)},
	} {
		if got := window.Acked(c.w, c.bytes, c.out, true); got != c.want {
			t.Errorf("Acked(%+v, %d, %d, true) told %+v, want %+v", c.w, c.bytes, c.out, got, c.want)
		}
	}
}

// W2: windows that grow one after another, as bytes come.
func TestGrowsOn(t *testing.T) {
	w := window.New(12000)
	for i, want := range []window.Window{
		of(6000, 12000, 0), of(7500, 12000, 0), of(9000, 12000, 0), of(10500, 12000, 0), of(12000, 12000, 0),
		of(13500, 12000, 0), // it was Slow still: Cwnd was Ssthresh
		of(13500, 12000, 1500), of(13500, 12000, 3000), of(13500, 12000, 4500), of(13500, 12000, 6000), of(13500, 12000, 7500),
		of(13500, 12000, 9000), of(13500, 12000, 10500), of(13500, 12000, 12000), of(15000, 12000, 0),
	} {
		if w = window.Acked(w, 1500, w.Cwnd, true); w != want {
			t.Fatalf("after packet %d: %+v, want %+v", i, w, want)
		}
	}
	if w = window.Lost(w); w != of(7500, 7500, 0) {
		t.Errorf("then Lost: %+v", w)
	}
	if w = window.Acked(w, 1500, 7500, true); w != of(9000, 7500, 0) {
		t.Errorf("then Acked: %+v", w)
	}
	if w = window.Timeout(w); w != of(1500, 6000, 0) {
		t.Errorf("then Timeout: %+v", w)
	}
	for want := 3000; want <= 7500; want += 1500 {
		if w = window.Acked(w, 1500, w.Cwnd, true); w != of(want, 6000, 0) {
			t.Errorf("then Acked: %+v", w)
		}
	}
}

// W2: all at and past a bound, and at and past what it is held against, against
// the words.
func TestAckedAtEdges(t *testing.T) {
	for _, cwnd := range edges() {
		at := made(cwnd, 1500, most)
		for _, ssthresh := range []int{math.MinInt, 0, at - 1, at, at + 1, most + 1, math.MaxInt} {
			for _, partial := range []int{math.MinInt, -1, 0, 1, at - 1501, at - 1, at, at + 1, most - 1, most, most + 1, math.MaxInt} {
				w := of(cwnd, ssthresh, partial)
				for _, bytes := range []int{math.MinInt, -1, 0, 1, 1499, 1500, 1501, at - 1, at, at + 1, most, most + 1, math.MaxInt} {
					left := at - made(partial, 0, most)
					for _, out := range []int{math.MinInt, 0, at - 1, at, at + 1, bytes - 1, bytes, bytes + 1, most - 1, most, math.MaxInt} {
						wantAcked(t, w, bytes, out, true)
						wantAcked(t, w, left-1, out, true)
						wantAcked(t, w, left, out, true)
						wantAcked(t, w, left+1, out, true)
					}
					wantAcked(t, w, bytes, at, false)
				}
			}
		}
	}
}

// W2: all numbers handed in at and past the bounds, whatever else.
func TestAckedOfAnyEdges(t *testing.T) {
	for _, w := range []window.Window{of(4500, 60000, 7), of(4500, 4499, 7), of(0, 0, 0), of(1<<30, 1<<30, 1<<30), of(1<<30, 0, 1<<30), of(math.MaxInt, math.MinInt, math.MaxInt)} {
		for _, bytes := range edges() {
			for _, out := range edges() {
				wantAcked(t, w, bytes, out, true)
				wantAcked(t, w, bytes, out, false)
			}
		}
	}
}

// W3: what is told when something went wrong, or nothing was sent, written out.
func TestKnownSetbacks(t *testing.T) {
	for _, c := range []struct{ cwnd, half, idle int }{
		{4500, 6000, 4500}, {1500, 6000, 1500}, {1499, 6000, 1500}, {1501, 6000, 1501}, {0, 6000, 1500}, {-20000, 6000, 1500}, {math.MinInt, 6000, 1500},
		{5999, 6000, 5999}, {6000, 6000, 6000}, {6001, 6000, 6000}, {11999, 6000, 6000}, {12000, 6000, 6000}, {12001, 6000, 6000}, {12002, 6001, 6001}, {12003, 6001, 6001},
		{12004, 6002, 6002}, {60000, 30000, 30000}, {60001, 30000, 30000}, {1<<30 - 1, 1<<29 - 1, 1<<29 - 1}, {1 << 30, 1 << 29, 1 << 29}, {1<<30 + 2, 1 << 29, 1 << 29},
		{1 << 31, 1 << 29, 1 << 29}, {1<<32 + 4500, 1 << 29, 1 << 29}, {math.MaxInt, 1 << 29, 1 << 29},
	} {
		for _, rest := range []struct{ is, told int }{{0, 0}, {1, 1}, {5, 5}, {60000, 60000}, {-1, 0}, {math.MinInt, 0}, {1 << 30, 1 << 30}, {1<<30 + 1, 1 << 30}, {math.MaxInt, 1 << 30}} {
			for _, w := range []window.Window{of(c.cwnd, rest.is, 0), of(c.cwnd, 77, rest.is), of(c.cwnd, rest.is, rest.is)} {
				if got, want := window.Lost(w), of(c.half, c.half, 0); got != want {
					t.Errorf("Lost(%+v) told %+v, want %+v", w, got, want)
				}
				if got, want := window.Timeout(w), of(1500, c.half, 0); got != want {
					t.Errorf("Timeout(%+v) told %+v, want %+v", w, got, want)
				}
			}
			if got, want := window.Idle(of(c.cwnd, rest.is, 9)), of(c.idle, rest.told, 9); got != want {
				t.Errorf("Idle of %d, %d, 9 told %+v, want %+v", c.cwnd, rest.is, got, want)
			}
			if got, want := window.Idle(of(c.cwnd, 9, rest.is)), of(c.idle, 9, rest.told); got != want {
				t.Errorf("Idle of %d, 9, %d told %+v, want %+v", c.cwnd, rest.is, got, want)
			}
		}
	}
}

// W3: setbacks one after another end somewhere.
func TestSetbacksOn(t *testing.T) {
	w := of(100000, 100000, 8)
	for _, want := range []int{50000, 25000, 12500, 6250, 6000, 6000} {
		if w = window.Lost(w); w != of(want, want, 0) {
			t.Errorf("Lost told %+v, want %d", w, want)
		}
	}
	w = of(100000, 100000, 8)
	for _, want := range []int{50000, 25000, 12500, 6250, 6000, 6000} {
		if w = window.Idle(w); w != of(want, 100000, 8) {
			t.Errorf("Idle told %+v, want %d", w, want)
		}
	}
	w = of(100000, 100000, 8)
	for _, want := range []int{50000, 6000, 6000} {
		if w = window.Timeout(w); w != of(1500, want, 0) {
			t.Errorf("Timeout told %+v, want %d", w, want)
		}
	}
}

// W1, W3: all at and past a bound, against the words.
func TestOthersAtEdges(t *testing.T) {
	l := edges()
	for _, a := range l {
		for _, b := range l {
			for _, c := range l {
				wantOthers(t, of(a, b, c), b)
			}
			wantOthers(t, of(a, 0, 0), b)
			wantOthers(t, of(a, a-1, 0), b)
			wantOthers(t, of(a, a+1, 0), b)
		}
	}
}

// W1, W3: each Cwnd that there is up to some, held against each way of the words.
func TestEachCwnd(t *testing.T) {
	for cwnd := -3; cwnd <= 25000; cwnd++ {
		for by := -1; by <= 1; by++ {
			wantOthers(t, of(cwnd, cwnd+by, cwnd), cwnd+by)
			wantAcked(t, of(cwnd, 60000, 3), cwnd-4500, cwnd+by, true)
			wantAcked(t, of(cwnd, cwnd-1, 3), cwnd-3+by, cwnd, true)
		}
	}
}

// W1 to W3: any windows and numbers against the words; and rows of calls, each
// of what the one ahead told.
func TestAnything(t *testing.T) {
	chance := rand.New(rand.NewSource(1))
	for range 200000 {
		w := anyWindow(chance)
		out := nearTo(chance, w.Cwnd)
		wantAcked(t, w, nearTo(chance, out), out, chance.Intn(8) > 0)
		wantOthers(t, w, out)
	}
	for range 500 {
		w := window.New(anyNumber(chance))
		for range 200 {
			bytes, out := anyNumber(chance), nearTo(chance, w.Cwnd)
			wantAcked(t, w, bytes, out, true)
			wantOthers(t, w, out)
			w = next(chance, w, bytes, out)
		}
	}
}

// next is a window to which something was done: mostly it grows.
func next(chance *rand.Rand, w window.Window, bytes, out int) window.Window {
	switch chance.Intn(30) {
	case 0:
		return window.Lost(w)
	case 1:
		return window.Timeout(w)
	case 2:
		return window.Idle(w)
	}
	return window.Acked(w, bytes, out, chance.Intn(8) > 0)
}

// W4: no Cwnd that is told is below 1500, and what went wrong makes none greater
// than it was, or 6000; Words: all that is told is within bounds.
func TestFollows(t *testing.T) {
	chance := rand.New(rand.NewSource(2))
	for range 100000 {
		w, bytes, out := anyWindow(chance), anyNumber(chance), anyNumber(chance)
		was := made(w.Cwnd, 1500, most)
		lost, timeout, idle := window.Lost(w), window.Timeout(w), window.Idle(w)
		acked, kept := window.Acked(w, bytes, out, true), window.Acked(w, bytes, out, false)
		for _, told := range []window.Window{lost, timeout, idle, acked, kept, window.New(bytes)} {
			if told.Cwnd < 1500 || told != asWordsSay(told) {
				t.Errorf("of %+v, %d, %d: %+v", w, bytes, out, told)
			}
		}
		for _, told := range []window.Window{lost, timeout} {
			if told.Cwnd > max(was, 6000) || told.Ssthresh > max(was, 6000) {
				t.Errorf("of %+v: %+v", w, told)
			}
		}
		if idle.Cwnd > was || acked.Cwnd < was || acked.Cwnd > was+1500 || kept != asWordsSay(w) {
			t.Errorf("of %+v, %d, %d: %+v, %+v, %+v", w, bytes, out, idle, acked, kept)
		}
	}
}

// P4 of all: what is told hangs on nothing but what is handed in, whatever was
// asked before, or is asked at one time.
func TestAskedTogether(t *testing.T) {
	all := func(w window.Window, bytes, out int) []window.Window {
		return []window.Window{
			window.New(bytes), window.Acked(w, bytes, out, true), window.Acked(w, bytes, out, false), window.Lost(w), window.Timeout(w), window.Idle(w),
		}
	}
	var asked sync.WaitGroup
	for from := range 8 {
		asked.Go(func() {
			chance := rand.New(rand.NewSource(int64(from)))
			w := anyWindow(chance)
			for range 2000 {
				bytes, out := anyNumber(chance), nearTo(chance, w.Cwnd)
				first, may, slow := all(w, bytes, out), window.May(w, out), window.Slow(w)
				all(anyWindow(chance), anyNumber(chance), anyNumber(chance))
				if !slices.Equal(all(w, bytes, out), first) || window.May(w, out) != may || window.Slow(w) != slow {
					t.Errorf("%+v, %d, %d: told otherwise the second time", w, bytes, out)
				}
				w = next(chance, w, bytes, out)
			}
		})
	}
	asked.Wait()
}
