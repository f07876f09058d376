package path_test

import (
	"fmt"
	"math"
	"math/rand"
	"slices"
	"strings"
	"sync"
	"testing"
	"unsafe"

	"towline/api"
	"towline/path"
	"towline/rto"
	"towline/window"
)

// sixteen is an address of 16 bytes that begins as bbbb does.
const sixteen = "bbbb0123456789ab"

func three(t *testing.T) path.Paths {
	t.Helper()
	p, err := path.New([]string{"aaaa", "bbbb", sixteen}, 20000)
	if err != api.OK {
		t.Fatal(err)
	}
	return p
}

// edges are numbers on both sides of each bound that the chapter sets, and of
// those that an int has.
func edges() []int {
	l := []int{math.MinInt, math.MinInt + 1, -1 << 40, -2, 1 << 31, 1 << 32, 1 << 40, math.MaxInt - 1, math.MaxInt}
	for _, bound := range []int{0, 2, 5, 10, 1000, 60000} {
		l = append(l, bound-1, bound, bound+1)
	}
	return l
}

// anyNumber is one of any size, mostly a small one.
func anyNumber(chance *rand.Rand) int {
	switch chance.Intn(6) {
	case 0:
		l := edges()
		return l[chance.Intn(len(l))]
	case 1:
		return int(chance.Uint64()) >> chance.Intn(64)
	}
	return chance.Intn(13)
}

// anyPath is a path that somebody filled in, mostly one that could have come
// about.
func anyPath(chance *rand.Rand) path.Path {
	x := path.Path{
		Address: []string{"aaaa", "bbbb", sixteen, "", "a"}[chance.Intn(5)],
		State:   1 + chance.Intn(3),
		Errors:  anyNumber(chance),
		Timer:   rto.Timer{Srtt: anyNumber(chance), Var: anyNumber(chance), Rto: chance.Intn(70000), Backs: anyNumber(chance), Known: chance.Intn(2) > 0},
		Window:  window.Window{Cwnd: chance.Intn(90000), Ssthresh: chance.Intn(90000), Partial: anyNumber(chance)},
		Nonce:   uint32(chance.Intn(3)),
		Beaten:  anyNumber(chance),
		Sent:    chance.Intn(2),
	}
	if chance.Intn(8) == 0 {
		x.State, x.Sent, x.Nonce = anyNumber(chance), anyNumber(chance), chance.Uint32()
	}
	return x
}

func anyPaths(chance *rand.Rand) path.Paths {
	p := path.Paths{Primary: chance.Intn(7) - 1, All: anyNumber(chance)}
	for range chance.Intn(6) {
		p.L = append(p.L, anyPath(chance))
	}
	if chance.Intn(8) == 0 {
		p.Primary = anyNumber(chance)
	}
	return p
}

// anyPlace is the number of a path, or one on either side of those.
func anyPlace(chance *rand.Rand, p path.Paths) int {
	if chance.Intn(12) == 0 {
		return anyNumber(chance)
	}
	return chance.Intn(len(p.L)+2) - 1
}

func same(p, q path.Paths) bool {
	return p.Primary == q.Primary && p.All == q.All && slices.Equal(p.L, q.L)
}

func apart(p path.Paths) path.Paths {
	return path.Paths{L: append([]path.Path(nil), p.L...), Primary: p.Primary, All: p.All}
}

func wantPaths(t *testing.T, what string, got, want path.Paths) {
	t.Helper()
	if !same(got, want) {
		t.Errorf("%s told %+v, want %+v", what, got, want)
	}
}

func isThere(p path.Paths, i int) bool { return !(i < 0) && !(i >= len(p.L)) }

func beatByTheWords(p path.Paths, i int, nonce uint32, now int) path.Paths {
	q := apart(p)
	if isThere(p, i) {
		q.L[i].Nonce = nonce
		q.L[i].Beaten = now
		q.L[i].Sent = 1
	}
	return q
}

func goodByTheWords(p path.Paths, i int) path.Paths {
	q := apart(p)
	if !isThere(p, i) {
		return q
	}
	q.L[i].Errors = 0
	q.All = 0
	q.L[i].Timer = rto.Good(p.L[i].Timer)
	if p.L[i].State == 3 {
		q.L[i].State = 2
	}
	return q
}

func ackByTheWords(p path.Paths, i int, nonce uint32, now int) (path.Paths, bool) {
	if !isThere(p, i) {
		return apart(p), false
	}
	was := p.L[i]
	if was.Sent != 1 || was.Nonce != nonce || now < was.Beaten {
		return apart(p), false
	}
	q := apart(p)
	q.L[i].Timer = rto.Sample(was.Timer, now-was.Beaten)
	q.L[i].Sent = 0
	q = goodByTheWords(q, i)
	if was.State == 1 {
		q.L[i].State = 2
	}
	return q, true
}

func failByTheWords(p path.Paths, i int) (path.Paths, bool) {
	q := apart(p)
	if !isThere(p, i) {
		return q, false
	}
	was := p.L[i]
	q.L[i].Errors = was.Errors + 1
	q.L[i].Timer = rto.Back(was.Timer)
	q.L[i].Window = window.Timeout(was.Window)
	if was.State == 2 && !(was.Errors+1 <= 5) {
		q.L[i].State = 3
	}
	q.All = p.All + 1
	return q, !(q.All <= 10)
}

// chooseByTheWords goes by which paths are Active.
func chooseByTheWords(p path.Paths, not int) int {
	var active []int
	for i, x := range p.L {
		if x.State == 2 {
			active = append(active, i)
		}
	}
	others := slices.DeleteFunc(slices.Clone(active), func(i int) bool { return i == not })
	switch {
	case slices.Contains(others, p.Primary):
		return p.Primary
	case len(others) > 0:
		return others[0]
	case len(active) > 0: // it is the path not
		return active[0]
	case isThere(p, p.Primary):
		return p.Primary
	}
	return -1
}

func setByTheWords(p path.Paths, i int) (path.Paths, api.Errno) {
	if !isThere(p, i) {
		return path.Paths{}, api.ErrNone
	}
	if p.L[i].State == 1 {
		return path.Paths{}, api.ErrState
	}
	q := apart(p)
	q.Primary = i
	return q, api.OK
}

func findByTheWords(p path.Paths, address string) int {
	for i := len(p.L) - 1; i >= 0; i-- {
		if p.L[i].Address == address && !slices.ContainsFunc(p.L[:i], func(x path.Path) bool { return x.Address == address }) {
			return i
		}
	}
	return -1
}

// wantAll holds what each call tells against the words, and that none changes
// what it is handed.
func wantAll(t *testing.T, p path.Paths, i int, nonce uint32, now int) {
	t.Helper()
	before := apart(p)
	want := func(call string, right bool, told ...any) {
		t.Helper()
		if !right {
			t.Errorf("%s of %+v, %d, %d, %d told %+v", call, before, i, nonce, now, told)
		}
	}
	beaten, heard := path.Beat(p, i, nonce, now), path.Good(p, i)
	want("Beat", same(beaten, beatByTheWords(p, i, nonce, now)), beaten)
	want("Good", same(heard, goodByTheWords(p, i)), heard)
	acked, answered := path.Ack(p, i, nonce, now)
	wanted, ok := ackByTheWords(p, i, nonce, now)
	want("Ack", same(acked, wanted) && answered == ok, acked, answered)
	failed, tooMany := path.Fail(p, i)
	wanted, ok = failByTheWords(p, i)
	want("Fail", same(failed, wanted) && tooMany == ok, failed, tooMany)
	set, err := path.SetPrimary(p, i)
	wanted, wantedErr := setByTheWords(p, i)
	want("SetPrimary", same(set, wanted) && err == wantedErr, set, err)
	chosen := path.Choose(p, i)
	want("Choose", chosen == chooseByTheWords(p, i), chosen)
	for _, address := range []string{"aaaa", "bbbb", sixteen, "", "a", "zzzz"} {
		found := path.Find(p, address)
		want("Find "+address, found == findByTheWords(p, address), found)
	}
	want("all", same(p, before), p)
}

// inState is paths of these states.
func inState(primary int, states ...int) path.Paths {
	p := path.Paths{Primary: primary}
	for _, state := range states {
		p.L = append(p.L, path.Path{State: state})
	}
	return p
}

// The chapter's examples, and what its constants are.
func TestExamples(t *testing.T) {
	p := three(t)
	if a, b := path.Choose(p, -1), path.Choose(p, 0); a != 0 || b != 0 {
		t.Errorf("Choose told %d, %d", a, b)
	}
	p, ok := path.Ack(path.Beat(p, 1, 7, 100), 1, 7, 300)
	if !ok || p.L[1].State != path.Active || path.Choose(p, 0) != 1 {
		t.Errorf("Ack told %+v, %t", p, ok)
	}
	if path.Unconfirmed != 1 || path.Active != 2 || path.Inactive != 3 || path.MaxErrors != 5 || path.MaxAll != 10 {
		t.Error("constants")
	}
}

// A1: New, of one to four addresses, and of each peer.
func TestNew(t *testing.T) {
	all := []string{"\x00\x00\x00\x00", sixteen, "aaaa", strings.Repeat("\xff", 16)}
	for count := 1; count <= 4; count++ {
		for _, peer := range []int{math.MinInt, -1, 0, 1, 1500, 20000, 1 << 30, 1<<30 + 1, math.MaxInt} {
			p, err := path.New(all[:count], peer)
			want := path.Paths{}
			for _, address := range all[:count] {
				want.L = append(want.L, path.Path{Address: address, State: 1, Timer: rto.New(), Window: window.New(peer)})
			}
			want.L[0].State = 2
			if wantPaths(t, fmt.Sprint("New of ", count, ", ", peer), p, want); err != api.OK {
				t.Errorf("New of %d, %d told %d", count, peer, err)
			}
		}
	}
	p, _ := path.New([]string{"aaaa", sixteen}, 20000)
	want := []path.Path{
		{Address: "aaaa", State: 2, Timer: rto.Timer{Rto: 1000}, Window: window.Window{Cwnd: 4500, Ssthresh: 20000}},
		{Address: sixteen, State: 1, Timer: rto.Timer{Rto: 1000}, Window: window.Window{Cwnd: 4500, Ssthresh: 20000}},
	}
	if !slices.Equal(p.L, want) || p.Primary != 0 || p.All != 0 {
		t.Errorf("New told %+v", p)
	}
}

// A1: the errors of New, one and several at a time.
func TestNewErrors(t *testing.T) {
	many := func(count int) []string {
		l := make([]string, count)
		for i := range l {
			l[i] = fmt.Sprintf("%04x", i)
		}
		return l
	}
	for _, c := range []struct {
		name string
		l    []string
		want api.Errno
	}{
		{"nil", nil, api.ErrArg},
		{"none", []string{}, api.ErrArg},
		{"an empty one", []string{""}, api.ErrArg},
		{"the first one wrong", []string{"abc", "aaaa"}, api.ErrArg},
		{"one between wrong", []string{"aaaa", "abcde", "bbbb"}, api.ErrArg},
		{"the last one wrong", []string{"aaaa", "bbbb", "cccc", ""}, api.ErrArg},
		{"two empty ones", []string{"", ""}, api.ErrArg},
		{"a wrong one twice", []string{"abc", "aaaa", "abc"}, api.ErrArg},
		{"one twice, one wrong", []string{"aaaa", "aaaa", "abc"}, api.ErrArg},
		{"one wrong, one twice", []string{"abc", "aaaa", "aaaa"}, api.ErrArg},
		{"five", many(5), api.ErrLong},
		{"six", many(6), api.ErrLong},
		{"65536", many(65536), api.ErrLong},
		{"100000, one wrong", append(many(65536), many(100000)...), api.ErrArg},
		{"five, the last one wrong", append(many(4), "x"), api.ErrArg},
		{"five, the first one wrong", append([]string{"x"}, many(4)...), api.ErrArg},
		{"five, the last one there twice", append(many(4), "0000"), api.ErrLong},
		{"five of one", slices.Repeat([]string{"aaaa"}, 5), api.ErrLong},
		{"five of one that is wrong", slices.Repeat([]string{"aaa"}, 5), api.ErrArg},
		{"two of one", []string{"aaaa", "aaaa"}, api.ErrThere},
		{"two of one of 16", []string{sixteen, "aaaa", sixteen}, api.ErrThere},
		{"four of one", slices.Repeat([]string{"aaaa"}, 4), api.ErrThere},
		{"two that begin alike", []string{"bbbb", sixteen}, api.OK},
		{"two that differ in a byte", []string{"aaaa", "aaab"}, api.OK},
		{"four", many(4), api.OK},
	} {
		p, err := path.New(c.l, 20000)
		if err != c.want || err == api.OK && len(p.L) != len(c.l) {
			t.Errorf("%s: told %d, %+v, want %d", c.name, err, p, c.want)
		}
		if err != api.OK && (len(p.L) != 0 || p.Primary != 0 || p.All != 0) {
			t.Errorf("%s: told %+v beside an error", c.name, p)
		}
	}
}

// A1: an address has 4 or 16 bytes, wherever it stands; and each two places may
// hold the same.
func TestNewPlaces(t *testing.T) {
	for count := 1; count <= 4; count++ {
		l := []string{"aaaa", sixteen, "cccc", "dddd"}[:count]
		for place := range count {
			for length := range 70 {
				changed := slices.Clone(l)
				changed[place] = strings.Repeat("x", length)
				want := api.ErrArg
				if length == 4 || length == 16 {
					want = api.OK
				}
				if _, err := path.New(changed, 0); err != want {
					t.Errorf("%q: told %d, want %d", changed, err, want)
				}
			}
			for other := range place {
				changed := slices.Clone(l)
				changed[place] = changed[other]
				if _, err := path.New(changed, 0); err != api.ErrThere {
					t.Errorf("%q: told %d", changed, err)
				}
			}
		}
	}
}

// P3 of A1: neither the list nor its bytes are kept, or written into, nor what
// lies behind its length.
func TestNewKeepsNothing(t *testing.T) {
	bytes := []byte("aaaabbbb")
	text := unsafe.String(&bytes[0], len(bytes))
	l := []string{text[:4], text[4:], "cccc", "cccc"}
	p, err := path.New(l[:2], 0)
	if err != api.OK || len(p.L) != 2 {
		t.Fatalf("New told %+v, %d", p, err)
	}
	if !slices.Equal(l, []string{"aaaa", "bbbb", "cccc", "cccc"}) {
		t.Errorf("the list became %q", l)
	}
	copy(bytes, "xxxxyyyy")
	l[0], l[1] = "1111", "2222"
	if p.L[0].Address != "aaaa" || p.L[1].Address != "bbbb" {
		t.Errorf("the addresses became %q, %q", p.L[0].Address, p.L[1].Address)
	}
	again, _ := path.New([]string{"aaaa"}, 0)
	again.L[0].State = 3
	if again, _ = path.New([]string{"aaaa"}, 0); again.L[0].State != 2 {
		t.Error("a change of what was told was seen later")
	}
}

// A1: Find.
func TestFind(t *testing.T) {
	p := three(t)
	for address, want := range map[string]int{
		"aaaa": 0, "bbbb": 1, sixteen: 2, "": -1, "a": -1, "aaa": -1, "aaaaa": -1, "aaab": -1, "AAAA": -1, "cccc": -1, sixteen[:15]: -1, sixteen + "c": -1, sixteen[:15] + "c": -1,
	} {
		if got := path.Find(p, address); got != want {
			t.Errorf("Find %q told %d, want %d", address, got, want)
		}
		if got := path.Find(path.Paths{}, address); got != -1 {
			t.Errorf("Find %q of nothing told %d", address, got)
		}
	}
	// Behind the length of L there is nothing.
	p.L = p.L[:1]
	if got := path.Find(p, "bbbb"); got != -1 {
		t.Errorf("Find behind the last one told %d", got)
	}
	// Whatever else is of a path, and which one is primary, does not matter.
	odd := path.Paths{L: []path.Path{{Address: "", State: 3}, {Address: "x", State: 9}, {Address: "x"}}, Primary: 2, All: 50}
	if a, b := path.Find(odd, ""), path.Find(odd, "x"); a != 0 || b != 1 {
		t.Errorf("Find told %d, %d", a, b)
	}
}

// A2: Beat, of each path, whatever it was, and of none.
func TestBeat(t *testing.T) {
	for i := range 3 {
		for _, state := range []int{1, 2, 3} {
			for _, c := range []struct {
				nonce uint32
				now   int
			}{{7, 100}, {0, 0}, {math.MaxUint32, 1 << 40}, {1, -5}} {
				p := three(t)
				p.L[i].State, p.L[i].Errors, p.All = state, 4, 9
				want := apart(p)
				want.L[i].Nonce, want.L[i].Beaten, want.L[i].Sent = c.nonce, c.now, 1
				q := path.Beat(p, i, c.nonce, c.now)
				wantPaths(t, fmt.Sprint("Beat ", i, c), q, want)
				// A later one stands for the one that is under way.
				want.L[i].Nonce, want.L[i].Beaten = 99, 9999
				wantPaths(t, fmt.Sprint("Beat again ", i, c), path.Beat(q, i, 99, 9999), want)
			}
		}
	}
	for _, i := range []int{-1, 3, 4, math.MinInt, math.MaxInt} {
		wantPaths(t, fmt.Sprint("Beat ", i), path.Beat(three(t), i, 7, 100), three(t))
	}
}

// A2: what is an answer to a heartbeat, and what is none.
func TestIsAnswer(t *testing.T) {
	two := path.Beat(path.Beat(three(t), 1, 7, 100), 2, 8, 200)
	for _, c := range []struct {
		name  string
		i     int
		nonce uint32
		now   int
		want  bool
	}{
		{"at once", 1, 7, 100, true},
		{"later", 1, 7, 101, true},
		{"much later", 1, 7, math.MaxInt, true},
		{"too early", 1, 7, 99, false},
		{"much too early", 1, 7, math.MinInt, false},
		{"another nonce", 1, 8, 300, false},
		{"nonce 0", 1, 0, 300, false},
		{"a nonce that is more", 1, 7 + 1<<31, 300, false},
		{"the other path's", 2, 7, 300, false},
		{"the other one", 2, 8, 300, true},
		{"the other one too early", 2, 8, 199, false},
		{"of none under way", 0, 0, 300, false},
		{"of no path", 3, 0, 300, false},
		{"of path -1", -1, 7, 300, false},
		{"of no path at all", math.MaxInt, 7, 300, false},
	} {
		p, ok := path.Ack(two, c.i, c.nonce, c.now)
		want := apart(two)
		if c.want {
			want.L[c.i].Sent, want.L[c.i].State = 0, 2
			want.L[c.i].Timer = rto.Sample(rto.New(), c.now-two.L[c.i].Beaten)
		}
		if wantPaths(t, c.name, p, want); ok != c.want {
			t.Errorf("%s: told %t", c.name, ok)
		}
		if _, ok := path.Ack(p, c.i, c.nonce, c.now); ok && c.want {
			t.Errorf("%s: answered twice", c.name)
		}
	}
	for _, sent := range []int{math.MinInt, -1, 0, 1, 2, 3, math.MaxInt} {
		p := apart(two)
		p.L[1].Sent = sent
		if _, ok := path.Ack(p, 1, 7, 300); ok != (sent == 1) {
			t.Errorf("Sent %d: told %t", sent, ok)
		}
	}
}

// A2: what an answer does to a path of each state, written out.
func TestAck(t *testing.T) {
	for state, after := range map[int]int{1: 2, 2: 2, 3: 2, 0: 0, 4: 4, -1: -1, math.MaxInt: math.MaxInt} {
		p := three(t)
		p.Primary, p.All = 2, 8
		p.L[0].Errors = 3
		p.L[1] = path.Path{
			Address: "bbbb", State: state, Errors: 5, Timer: rto.Timer{Srtt: 500, Var: 250, Rto: 60000, Backs: 9, Known: true},
			Window: window.Window{Cwnd: 1500, Ssthresh: 6000, Partial: 3}, Nonce: 7, Beaten: 1000, Sent: 1,
		}
		want := apart(p)
		want.All = 0
		want.L[1] = path.Path{
			Address: "bbbb", State: after, Timer: rto.Timer{Srtt: 450, Var: 287, Rto: 1598, Known: true},
			Window: window.Window{Cwnd: 1500, Ssthresh: 6000, Partial: 3}, Nonce: 7, Beaten: 1000,
		}
		got, ok := path.Ack(p, 1, 7, 1100)
		if wantPaths(t, fmt.Sprint("state ", state), got, want); !ok {
			t.Errorf("state %d: told false", state)
		}
	}
}

// A2: how long an answer took goes round beyond an int's bounds.
func TestAckGoesRound(t *testing.T) {
	for _, c := range []struct{ beaten, now, srtt int }{
		{0, 60000, 60000}, {0, 60001, 60000}, {-100, 100, 200}, {math.MinInt, math.MinInt + 5, 5}, {math.MaxInt - 5, math.MaxInt, 5},
		{math.MinInt, math.MaxInt, 0}, {-2, math.MaxInt, 0}, {0, math.MaxInt, 60000}, {math.MinInt, 0, 0}, {math.MinInt, -1, 60000},
	} {
		p, ok := path.Ack(path.Beat(three(t), 1, 7, c.beaten), 1, 7, c.now)
		if !ok || p.L[1].Timer != rto.Sample(rto.New(), c.srtt) {
			t.Errorf("beaten %d, now %d: told %+v, %t", c.beaten, c.now, p.L[1].Timer, ok)
		}
	}
}

// A3: Fail, one after another, of a path of each state.
func TestFails(t *testing.T) {
	for _, c := range []struct{ state, after int }{{2, 3}, {1, 1}, {3, 3}, {0, 0}, {4, 4}} {
		p := three(t)
		p.L[1].State = c.state
		p.L[1].Window = window.Window{Cwnd: 40000, Ssthresh: 50000, Partial: 7}
		want, tooMany := apart(p), false
		for i, wait := range []int{2000, 4000, 8000, 16000, 32000, 60000, 60000, 60000, 60000, 60000, 60000, 60000} {
			want.All = i + 1
			want.L[1].Errors = i + 1
			want.L[1].Timer = rto.Timer{Rto: wait, Backs: i + 1}
			want.L[1].Window = window.Window{Cwnd: 1500, Ssthresh: []int{20000, 6000}[min(i, 1)]}
			if i >= 5 {
				want.L[1].State = c.after
			}
			p, tooMany = path.Fail(p, 1)
			if wantPaths(t, fmt.Sprint("Fail, time ", i+1), p, want); tooMany != (i >= 10) {
				t.Errorf("state %d, Fail, time %d: told %t", c.state, i+1, tooMany)
			}
		}
	}
}

// A3: errors of all paths together are counted, each path's own ones too.
func TestFailsOfAll(t *testing.T) {
	p, tooMany := three(t), false
	for i := range 3 {
		p.L[i].State = 2
	}
	for i := range 12 {
		p, tooMany = path.Fail(p, i%3)
		if p.All != i+1 || p.L[i%3].Errors != i/3+1 || p.L[i%3].State != 2 || tooMany != (i >= 10) {
			t.Errorf("Fail, time %d: %+v, %t", i, p, tooMany)
		}
	}
	p = path.Good(p, 2)
	if p.All != 0 || p.L[0].Errors != 4 || p.L[1].Errors != 4 || p.L[2].Errors != 0 {
		t.Errorf("then Good: %+v", p)
	}
	p, tooMany = path.Fail(p, 0)
	if p.All != 1 || p.L[0].Errors != 5 || p.L[0].State != 2 || tooMany {
		t.Errorf("then Fail: %+v, %t", p, tooMany)
	}
}

// A3: numbers of errors at and past a bound, of both; they go round beyond an
// int's bounds.
func TestFailBounds(t *testing.T) {
	for _, c := range []struct {
		errors, after, state int
	}{
		{4, 5, 2}, {5, 6, 3}, {6, 7, 3}, {3, 4, 2}, {-1, 0, 2}, {-7, -6, 2}, {9, 10, 3}, {10, 11, 3}, {math.MaxInt - 1, math.MaxInt, 3}, {math.MaxInt, math.MinInt, 2}, {math.MinInt, math.MinInt + 1, 2},
	} {
		p := inState(0, 2, 2)
		p.L[0].Errors = c.errors
		q, tooMany := path.Fail(p, 0)
		if q.L[0].Errors != c.after || q.L[0].State != c.state || q.All != 1 || tooMany || q.L[1] != p.L[1] {
			t.Errorf("of %d errors Fail told %+v, %t", c.errors, q, tooMany)
		}
	}
	for _, c := range []struct {
		all, after int
		want       bool
	}{
		{8, 9, false}, {9, 10, false}, {10, 11, true}, {11, 12, true}, {4, 5, false}, {5, 6, false}, {-20, -19, false}, {math.MaxInt - 1, math.MaxInt, true}, {math.MaxInt, math.MinInt, false}, {math.MinInt, math.MinInt + 1, false},
	} {
		p := inState(0, 2, 2)
		p.All = c.all
		q, tooMany := path.Fail(p, 1)
		if q.All != c.after || tooMany != c.want || q.L[1].Errors != 1 || q.L[1].State != 2 {
			t.Errorf("of %d in all Fail told %+v, %t", c.all, q, tooMany)
		}
		// Of a path that is not there nothing is told, however many there are.
		for _, i := range []int{-1, 2, 3, math.MinInt, math.MaxInt} {
			q, tooMany := path.Fail(p, i)
			if wantPaths(t, fmt.Sprint("Fail ", i), q, p); tooMany {
				t.Errorf("of %d in all Fail %d told true", c.all, i)
			}
		}
	}
}

// A3: Good, of a path of each state, written out.
func TestGood(t *testing.T) {
	for state, after := range map[int]int{1: 1, 2: 2, 3: 2, 0: 0, 4: 4, -1: -1, math.MaxInt: math.MaxInt} {
		for _, known := range []bool{true, false} {
			p := three(t)
			p.Primary, p.All = 2, 12
			p.L[0].Errors, p.L[0].State = 6, 3
			p.L[1] = path.Path{
				Address: "bbbb", State: state, Errors: 6, Timer: rto.Timer{Srtt: 500, Var: 250, Rto: 60000, Backs: 9, Known: known},
				Window: window.Window{Cwnd: 1500, Ssthresh: 6000, Partial: 3}, Nonce: 7, Beaten: 1000, Sent: 1,
			}
			want := apart(p)
			want.All = 0
			want.L[1].State, want.L[1].Errors = after, 0
			want.L[1].Timer.Rto, want.L[1].Timer.Backs = 1000, 0
			if known {
				want.L[1].Timer.Rto = 1500
			}
			wantPaths(t, fmt.Sprint("Good of state ", state), path.Good(p, 1), want)
			for _, i := range []int{-1, 3, math.MinInt, math.MaxInt} {
				wantPaths(t, fmt.Sprint("Good ", i), path.Good(p, i), p)
			}
		}
	}
}

// A4: Choose, written out.
func TestChoose(t *testing.T) {
	for _, c := range []struct {
		name      string
		p         path.Paths
		not, want int
	}{
		{"the primary one", inState(0, 2, 2), -1, 0},
		{"the primary one, not the first", inState(1, 2, 2), -1, 1},
		{"the primary one, not another", inState(1, 2, 2, 2), 0, 1},
		{"not the primary one", inState(1, 2, 2, 2), 1, 0},
		{"not the primary one, the first one", inState(0, 2, 2, 2), 0, 1},
		{"not the primary one, which is alone Active", inState(0, 2, 1, 3), 0, 0},
		{"the only one that is Active, behind others", inState(0, 1, 3, 2), 0, 2},
		{"the first one of two", inState(0, 3, 2, 2), -1, 1},
		{"the second one of two", inState(0, 3, 2, 2), 1, 2},
		{"the one that it should not be", inState(0, 3, 2, 3), 1, 1},
		{"the one that it should not be, not confirmed", inState(0, 3, 1), 1, 0},
		{"none Active, the primary one Inactive", inState(1, 3, 3), 0, 1},
		{"none Active, the primary one not confirmed", inState(1, 1, 1), 0, 1},
		{"none Active, not the primary one", inState(1, 3, 3), 1, 1},
		{"no primary one, none Active", inState(5, 3), 0, -1},
		{"no primary one, one Active", inState(5, 3, 2), 0, 1},
		{"no primary one, that one Active", inState(5, 3, 2), 1, 1},
		{"primary -1", inState(-1, 2, 2), -1, 0},
		{"primary -1, none Active", inState(-1, 3, 1), -1, -1},
		{"primary just behind the last one", inState(2, 2, 2), 0, 1},
		{"primary just behind the last one, none Active", inState(2, 1, 3), 0, -1},
		{"primary far off", inState(math.MaxInt, 3, 3), math.MaxInt, -1},
		{"primary far off, below", inState(math.MinInt, 3, 3), math.MinInt, -1},
		{"no path is not", inState(0, 2, 2), 7, 0},
		{"no path is not, far off", inState(0, 3, 3), math.MaxInt, 0},
		{"of nothing", path.Paths{}, -1, -1},
		{"of nothing, not 0", path.Paths{}, 0, -1},
		{"states that there are not", inState(1, 0, 4, -2), -1, 1},
		{"a state that there is not, primary", inState(0, 4, 2), -1, 1},
	} {
		if got := path.Choose(c.p, c.not); got != c.want {
			t.Errorf("%s: told %d, want %d", c.name, got, c.want)
		}
	}
}

// everyState does something with up to four paths of each state, whichever is
// primary, and the number of a path, or of none.
func everyState(what func(p path.Paths, i int)) {
	for count := range 5 {
		for code := range 1 << (2 * count) {
			for primary := -1; primary <= count; primary++ {
				p := path.Paths{Primary: primary}
				for i := range count {
					p.L = append(p.L, path.Path{State: code >> (2 * i) & 3})
				}
				for i := -1; i <= count; i++ {
					what(p, i)
				}
			}
		}
	}
}

// A4, A5: Choose of all states of up to four paths; what it tells is there, and
// is Active, unless it is primary.
func TestChooseOfAll(t *testing.T) {
	everyState(func(p path.Paths, not int) {
		got := path.Choose(p, not)
		if want := chooseByTheWords(p, not); got != want {
			t.Errorf("Choose(%+v, %d) told %d, want %d", p, not, got, want)
		}
		if got != -1 && !isThere(p, got) || got != -1 && got != p.Primary && p.L[got].State != path.Active || got == -1 && isThere(p, p.Primary) {
			t.Errorf("Choose(%+v, %d) told %d", p, not, got)
		}
	})
}

// A4: SetPrimary.
func TestSetPrimary(t *testing.T) {
	for _, c := range []struct {
		i    int
		want api.Errno
	}{
		{0, api.OK}, {1, api.ErrState}, {2, api.OK}, {3, api.OK}, {4, api.OK}, {5, api.ErrNone}, {6, api.ErrNone}, {-1, api.ErrNone}, {math.MinInt, api.ErrNone}, {math.MaxInt, api.ErrNone},
	} {
		p := inState(3, 2, 1, 3, 0, 4)
		p.All = 9
		p.L[2].Errors = 7
		got, err := path.SetPrimary(p, c.i)
		want := path.Paths{}
		if c.want == api.OK {
			want = apart(p)
			want.Primary = c.i
		}
		if wantPaths(t, fmt.Sprint("SetPrimary ", c.i), got, want); err != c.want {
			t.Errorf("SetPrimary %d told %d, want %d", c.i, err, c.want)
		}
	}
	if _, err := path.SetPrimary(path.Paths{}, 0); err != api.ErrNone {
		t.Errorf("of nothing: told %d", err)
	}
	everyState(func(p path.Paths, i int) {
		got, err := path.SetPrimary(p, i)
		want, wantedErr := setByTheWords(p, i)
		if wantPaths(t, fmt.Sprintf("SetPrimary(%+v, %d)", p, i), got, want); err != wantedErr {
			t.Errorf("SetPrimary(%+v, %d) told %d, want %d", p, i, err, wantedErr)
		}
	})
}

// A5: only an answer to a heartbeat confirms, whatever else is done; until then
// a path is not chosen, unless it is primary, which it can't be made.
func TestConfirms(t *testing.T) {
	chance := rand.New(rand.NewSource(1))
	for range 500 {
		p := three(t)
		var confirmed [3]bool
		confirmed[0] = true
		for range 60 {
			i := chance.Intn(5) - 1
			was := p
			if step := chance.Intn(6); step == 0 && chance.Intn(5) == 0 {
				p = path.Beat(p, i, 7, 100)
			} else if step == 1 {
				var ok bool
				if p, ok = path.Ack(p, i, uint32(7+chance.Intn(2)), 99+chance.Intn(3)); ok {
					confirmed[i] = true
				}
			} else if step == 2 {
				p = path.Good(p, i)
			} else if step == 3 {
				if q, err := path.SetPrimary(p, i); err == api.OK {
					p = q
				}
			} else {
				p, _ = path.Fail(p, i)
			}
			for i, yes := range confirmed {
				if (p.L[i].State != path.Unconfirmed) != yes {
					t.Fatalf("path %d of %+v, of %+v: confirmed %t", i, p, was, yes)
				}
			}
			for not := -1; not <= 3; not++ {
				if got := path.Choose(p, not); got < 0 || got > 2 || !confirmed[got] {
					t.Fatalf("Choose(%+v, %d) told %d", p, not, got)
				}
			}
		}
	}
	p := three(t)
	p.Primary, p.L[0].State = 1, path.Inactive
	if got := path.Choose(p, -1); got != 1 {
		t.Errorf("the primary one, not confirmed: told %d", got)
	}
}

// A1 to A4: any paths and numbers against the words; and rows of calls, each of
// what the one ahead told.
func TestAnything(t *testing.T) {
	chance := rand.New(rand.NewSource(2))
	for range 50000 {
		p := anyPaths(chance)
		i, nonce, now := handed(chance, p)
		wantAll(t, p, i, nonce, now)
	}
	for range 500 {
		p := three(t)
		for range 100 {
			i, nonce, now := handed(chance, p)
			wantAll(t, p, i, nonce, now)
			p = next(chance, p, i, nonce, now)
		}
	}
}

// handed is what may be handed in: mostly what fits the path.
func handed(chance *rand.Rand, p path.Paths) (int, uint32, int) {
	i := anyPlace(chance, p)
	if !isThere(p, i) || chance.Intn(3) == 0 {
		return i, uint32(chance.Intn(3)), anyNumber(chance)
	}
	return i, p.L[i].Nonce, p.L[i].Beaten + chance.Intn(4) - 1
}

// next is paths to which something was done.
func next(chance *rand.Rand, p path.Paths, i int, nonce uint32, now int) path.Paths {
	switch chance.Intn(9) {
	case 0:
		p = path.Good(p, i)
	case 1:
		p, _ = path.Ack(p, i, nonce, now)
	case 2, 3:
		p = path.Beat(p, i, nonce, now)
	case 4:
		if q, err := path.SetPrimary(p, i); err == api.OK {
			p = q
		}
	default:
		p, _ = path.Fail(p, i)
	}
	return p
}

// P1: of many paths, and of none, each call ends.
func TestManyPaths(t *testing.T) {
	chance := rand.New(rand.NewSource(3))
	many := path.Paths{Primary: 70000}
	for range 70001 {
		many.L = append(many.L, anyPath(chance))
	}
	for i := range many.L[:69999] {
		many.L[i].State = 1
	}
	many.L[70000].State, many.L[69999].State, many.L[69999].Address = 2, 2, "zzzz"
	if a, b, c := path.Choose(many, 70000), path.Choose(many, 69999), path.Find(many, "zzzz"); a != 69999 || b != 70000 || c != 69999 {
		t.Errorf("told %d, %d, %d", a, b, c)
	}
	for _, i := range []int{0, 70000, 70001, -1} {
		wantAll(t, many, i, 1, 50)
		wantAll(t, path.Paths{}, i, 1, 50)
		wantAll(t, path.Paths{L: []path.Path{}}, i, 1, 50)
	}
}

// P3: what was handed in is not written into, nor what lies behind the length
// of L; and a change of what is changed by a call is not seen on its other side.
func TestHandedInStays(t *testing.T) {
	calls := map[string]func(p path.Paths) path.Paths{
		"Beat":       func(p path.Paths) path.Paths { return path.Beat(p, 1, 70, 2000) },
		"Good":       func(p path.Paths) path.Paths { return path.Good(p, 1) },
		"Ack":        func(p path.Paths) path.Paths { q, _ := path.Ack(p, 1, 7, 300); return q },
		"Ack, no":    func(p path.Paths) path.Paths { q, _ := path.Ack(p, 1, 8, 300); return q },
		"Fail":       func(p path.Paths) path.Paths { q, _ := path.Fail(p, 1); return q },
		"Fail, none": func(p path.Paths) path.Paths { q, _ := path.Fail(p, 2); return q },
		"SetPrimary": func(p path.Paths) path.Paths { q, _ := path.SetPrimary(p, 1); return q },
	}
	for name, call := range calls {
		p := path.Beat(three(t), 1, 7, 100)
		p.L[1].State = path.Inactive
		whole := p.L
		p.L = p.L[:2] // room for a third one behind it
		before := apart(path.Paths{L: whole})
		q := call(p)
		told := apart(q)
		if !slices.Equal(whole, before.L) {
			t.Errorf("%s: what was handed in became %+v", name, whole)
		}
		q.L[1] = path.Path{State: 99}
		if _ = append(q.L, path.Path{State: 98}); !slices.Equal(whole, before.L) {
			t.Errorf("%s: what was handed in became %+v by a change of what was told", name, whole)
		}
		again := call(p)
		whole[1], whole[2] = path.Path{State: 97}, path.Path{State: 96}
		wantPaths(t, name+", after a change of what was handed in", again, told)
	}
}

// P4 of all: what is told hangs on nothing but what is handed in, whatever was
// asked before, or is asked at one time, of the same paths.
func TestAskedTogether(t *testing.T) {
	shared := anyPaths(rand.New(rand.NewSource(4)))
	for len(shared.L) < 2 {
		shared.L = append(shared.L, path.Path{State: 2})
	}
	before := apart(shared)
	var asked sync.WaitGroup
	for from := range 8 {
		asked.Go(func() {
			chance := rand.New(rand.NewSource(int64(from)))
			p := shared
			for range 300 {
				i, nonce, now := handed(chance, p)
				wantAll(t, p, i, nonce, now)
				wantAll(t, shared, i, nonce, now)
				p = next(chance, p, i, nonce, now)
			}
		})
	}
	asked.Wait()
	wantPaths(t, "after all", shared, before)
}
