package fork_test

import (
	"math"
	"math/rand"
	"slices"
	"testing"

	"florin/api"
	"florin/fork"
	"florin/header"
	"florin/retarget"
	"florin/rules"
	"florin/target"
	"florin/tree"
)

const easy = 0x207fffff

func params() api.Params {
	return api.Params{Limit: easy, Interval: 100, Span: 10000, Future: 50, Index: 1000, Orphans: 10}
}

func mined(t *testing.T, h api.Header) api.Header {
	t.Helper()
	for {
		if g, ok := header.Mine(h, easy, 4096); ok {
			return g
		}
		h.Version++
	}
}

// grown is a tree of n headers, that were not judged: each stands on one of the last few.
func grown(r *rand.Rand, n, few int) *tree.Tree {
	t := tree.New(n)
	for i := 0; i < n; i++ {
		h := api.Header{Bits: easy, Nonce: uint32(i)}
		if i > 0 {
			node, _ := t.Node(i - 1 - r.Intn(min(i, few)))
			h.Prev = node.Id
		}
		t.Add(h)
	}
	return t
}

func id(t *tree.Tree, i int) api.Hash {
	node, _ := t.Node(i)
	return node.Id
}

// P17.1
func TestAccept(t *testing.T) {
	p := params()
	insane := p
	insane.Interval = 0
	first := api.Header{Bits: easy, Time: 1000}
	pinned := p
	pinned.Checks = []api.Check{{Height: 0, H: api.Hash{1}}}
	x := tree.New(4)
	second := mined(t, api.Header{Prev: header.Id(first), Bits: easy, Time: 1100})
	third := mined(t, api.Header{Prev: header.Id(second), Bits: easy, Time: 1200})
	other := mined(t, api.Header{Prev: header.Id(first), Bits: easy, Time: 1300})
	late := mined(t, api.Header{Prev: header.Id(second), Bits: easy, Time: 1300})
	hard := mined(t, api.Header{Prev: header.Id(second), Bits: easy - 1, Time: 1300})
	unmined := api.Header{Prev: header.Id(second), Bits: easy, Time: 1300}
	for target.Meets(header.Id(unmined), easy, easy) == api.OK {
		unmined.Nonce++
	}
	full := mined(t, api.Header{Prev: header.Id(third), Bits: easy, Time: 1300})
	point := p
	point.Checks = []api.Check{{Height: 2, H: header.Id(late)}}
	for k, y := range []struct {
		p    api.Params
		h    api.Header
		now  int
		want int
		e    api.Errno
	}{
		{insane, first, 0, -1, api.ErrState}, {pinned, first, 0, -1, api.ErrCheck},
		{p, first, 0, 0, api.OK}, {p, first, 0, 0, api.ErrKnown}, {insane, first, 0, -1, api.ErrState}, {pinned, first, 0, 0, api.ErrKnown},
		{p, third, 1200, -1, api.ErrOrphan}, {p, api.Header{Prev: api.Hash{1}}, 1200, -1, api.ErrOrphan},
		{p, second, 1049, -1, api.ErrTime}, {p, second, 1050, 1, api.OK}, {p, second, 0, 1, api.ErrKnown},
		{p, hard, 1300, -1, api.ErrBits}, {p, unmined, 1300, -1, api.ErrWork}, {point, third, 1300, -1, api.ErrCheck},
		{p, third, 1200, 2, api.OK}, {p, other, 1300, 3, api.OK},
		{p, full, 1300, -1, api.ErrFull}, {p, late, 1300, -1, api.ErrFull}, {p, hard, 1300, -1, api.ErrBits}, {p, other, 1300, 3, api.ErrKnown},
		{insane, full, 1300, -1, api.ErrState},
	} {
		before := x.Len()
		if i, e := fork.Accept(y.p, x, y.h, y.now); i != y.want || e != y.e {
			t.Errorf("Accept %d: %d, %v", k, i, e)
		}
		if (x.Len() != before) != (y.e == api.OK) {
			t.Error("Len", k)
		}
	}
	if i, e := fork.Accept(p, nil, first, 0); i != -1 || e != api.ErrFull {
		t.Error("Accept into no tree", i, e)
	}
	if i, e := fork.Accept(pinned, nil, first, 0); i != -1 || e != api.ErrCheck {
		t.Error("Accept into no tree", i, e)
	}
	if i, e := fork.Accept(p, tree.New(5), api.Header{}, 0); i != 0 || e != api.OK {
		t.Error("a first one that was not mined", i, e)
	}
}

// P17.1: what stands on a branch is judged by that branch.
func TestAcceptBranch(t *testing.T) {
	p := params()
	p.Interval, p.Span = 2, 200
	x := tree.New(100)
	now := 1 << 20
	add := func(prev api.Header, line []api.Header, step uint32) api.Header {
		h := mined(t, api.Header{Prev: header.Id(prev), Bits: retarget.Chain(p, line), Time: prev.Time + step})
		if _, e := fork.Accept(p, x, h, now); e != api.OK {
			t.Fatal(e)
		}
		return h
	}
	first := api.Header{Bits: easy, Time: 1000}
	fork.Accept(p, x, first, now)
	slow, fast := []api.Header{first}, []api.Header{first}
	for i := 0; i < 6; i++ {
		slow = append(slow, add(slow[i], slow, 300))
		fast = append(fast, add(fast[i], fast, 20))
	}
	if slow[6].Bits == fast[6].Bits {
		t.Fatal("the branches have one target")
	}
	if i, _ := x.Best(); !slices.Equal(fork.Heads(x, i), fast) {
		t.Error("the best one is not that of the most work")
	}
	if n, e := rules.Valid(p, slow, now); n != 7 || e != api.OK {
		t.Error("Valid", n, e)
	}
}

// P17.1
func TestHeads(t *testing.T) {
	r := rand.New(rand.NewSource(1))
	x := grown(r, 60, 4)
	for i := -1; i <= 60; i++ {
		heads := fork.Heads(x, i)
		line := x.Line(i)
		if len(heads) != len(line) || header.Linked(heads) != len(heads) {
			t.Fatal("Heads", i)
		}
		for k, n := range line {
			if node, _ := x.Node(n); node.Head != heads[k] {
				t.Fatal("Heads", i, k)
			}
		}
	}
	if len(fork.Heads(nil, 0)) != 0 {
		t.Error("Heads of no tree")
	}
}

// P17.2, P17.6
func TestReorg(t *testing.T) {
	r := rand.New(rand.NewSource(2))
	x := grown(r, 50, 5)
	for from := -2; from < 52; from++ {
		for to := -2; to < 52; to++ {
			a, b := x.Line(from), x.Line(to)
			var undone, done []int
			for _, i := range slices.Backward(a) {
				if !slices.Contains(b, i) {
					undone = append(undone, i)
				}
			}
			for _, i := range b {
				if !slices.Contains(a, i) {
					done = append(done, i)
				}
			}
			u, d := fork.Reorg(x, from, to)
			if !slices.Equal(u, undone) || !slices.Equal(d, done) {
				t.Fatal("Reorg", from, to, u, d)
			}
			if !slices.Equal(x.Line(from), a) || !slices.Equal(x.Line(to), b) {
				t.Fatal("the lines are changed")
			}
			if !slices.Equal(slices.Concat(a[:len(a)-len(u)], d), b) {
				t.Fatal("it does not lead from one to the other", from, to)
			}
		}
	}
	if u, d := fork.Reorg(nil, 0, 0); len(u) != 0 || len(d) != 0 {
		t.Error("Reorg of no tree")
	}
}

// straight is a chain of n, and its ids.
func straight(n int) (*tree.Tree, []api.Hash) {
	x := grown(rand.New(rand.NewSource(3)), n, 1)
	var ids []api.Hash
	for i := 0; i < n; i++ {
		ids = append(ids, id(x, i))
	}
	return x, ids
}

// P17.3
func TestLocator(t *testing.T) {
	x, ids := straight(600)
	for i := 0; i < 600; i++ {
		var want []api.Hash
		h := i
		for k := 0; k < 10 && h >= 0; k++ {
			want = append(want, ids[h])
			h--
		}
		last := h + 1
		for step := 2; last-step >= 0; step *= 2 {
			last -= step
			want = append(want, ids[last])
		}
		if want[len(want)-1] != ids[0] {
			want = append(want, ids[0])
		}
		if got := fork.Locator(x, i); !slices.Equal(got, want) {
			t.Fatal("Locator", i, len(got), len(want))
		}
	}
	// By their heights: the last ten, then 2, 4, 8 .. further down, and the first one.
	var heights []int
	for _, h := range fork.Locator(x, 100) {
		heights = append(heights, slices.Index(ids, h))
	}
	if !slices.Equal(heights, []int{100, 99, 98, 97, 96, 95, 94, 93, 92, 91, 89, 85, 77, 61, 29, 0}) {
		t.Error(heights)
	}
	for _, i := range []int{-1, 600, math.MinInt, math.MaxInt} {
		if len(fork.Locator(x, i)) != 0 {
			t.Error("Locator", i)
		}
	}
	if len(fork.Locator(nil, 0)) != 0 {
		t.Error("Locator of no tree")
	}
	y := grown(rand.New(rand.NewSource(4)), 40, 3)
	for i := 0; i < 40; i++ {
		line := y.Line(i)
		for _, h := range fork.Locator(y, i) {
			if n, _ := y.Find(h); !slices.Contains(line, n) {
				t.Error("a locator leaves the line", i)
			}
		}
	}
}

// after is what the chapter tells of heights.
func after(line, know []int, stop, most int) []int {
	begin := 1
	for h, i := range line {
		if slices.Contains(know, i) {
			begin = h + 1
		}
	}
	if len(line) == 0 {
		return nil
	}
	rest := line[min(begin, len(line)):]
	rest = rest[:min(len(rest), min(max(most, 0), 2000))]
	if k := slices.Index(rest, stop); k >= 0 {
		rest = rest[:k+1]
	}
	return rest
}

// P17.4, P17.6
func TestAfter(t *testing.T) {
	r := rand.New(rand.NewSource(5))
	x := grown(r, 60, 4)
	for k := 0; k < 3000; k++ {
		tip := r.Intn(64) - 2
		var know []int
		var locator []api.Hash
		for i := r.Intn(5); i > 0; i-- {
			n := r.Intn(60)
			know = append(know, n)
			locator = append(locator, id(x, n))
		}
		if r.Intn(3) == 0 {
			locator = append(locator, api.Hash{1})
		}
		stop := r.Intn(60)
		stopId := id(x, stop)
		if r.Intn(2) == 0 {
			stop, stopId = -1, api.Hash{}
		}
		most := []int{2000, 0, 1, 5, 10, -1, math.MinInt, math.MaxInt}[r.Intn(8)]
		var want []api.Header
		for _, i := range after(x.Line(tip), know, stop, most) {
			node, _ := x.Node(i)
			want = append(want, node.Head)
		}
		if got := fork.After(x, tip, locator, stopId, most); !slices.Equal(got, want) {
			t.Fatal("After", tip, know, stop, most, len(got), len(want))
		}
	}
	for from := 0; from < 60; from++ {
		heads := fork.After(x, 59, fork.Locator(x, from), api.Hash{}, 2000)
		node, _ := x.Node(x.Line(59)[len(x.Line(59))-1-len(heads)])
		if len(heads) > 0 && heads[0].Prev != node.Id || header.Linked(heads) != len(heads) {
			t.Error("After does not go on from the line", from)
		}
		// What the asker lacks is among it: all of the line that is not in the asker's.
		_, lacks := fork.Reorg(x, from, 59)
		if len(heads) < len(lacks) {
			t.Error("After tells too few", from)
		}
	}
	if len(fork.After(nil, 0, nil, api.Hash{}, 10)) != 0 {
		t.Error("After of no tree")
	}
	long, _ := straight(2500)
	for most, want := range map[int]int{1999: 1999, 2000: 2000, 2001: 2000, math.MaxInt: 2000} {
		if got := fork.After(long, 2499, nil, api.Hash{}, most); len(got) != want {
			t.Error("After of", most, len(got))
		}
	}
}

// P17.5
func TestDepth(t *testing.T) {
	x := grown(rand.New(rand.NewSource(6)), 40, 4)
	numbers := []int{-1, 40, 41, math.MinInt, math.MaxInt}
	for i := 0; i < 40; i++ {
		numbers = append(numbers, i)
	}
	for _, tip := range numbers {
		for _, i := range numbers {
			line := x.Line(tip)
			want := 0
			if k := slices.Index(line, i); k >= 0 {
				want = len(line) - k
			}
			if d, ok := fork.Depth(x, tip, i); d != want || ok != (want > 0) {
				t.Fatal("Depth", tip, i, d, ok)
			}
		}
	}
	if d, ok := fork.Depth(nil, 0, 0); d != 0 || ok {
		t.Error("Depth of no tree")
	}
}

// Example 1.
func TestExample(t *testing.T) {
	x, _ := straight(5)
	if u, d := fork.Reorg(x, 4, 3); !slices.Equal(u, []int{4}) || len(d) != 0 {
		t.Error(u, d)
	}
}
