package tree_test

import (
	"math"
	"math/rand"
	"slices"
	"testing"

	"florin/api"
	"florin/header"
	"florin/target"
	"florin/tree"
	"florin/u256"
)

const easy = 0x207fffff

// on is a header that stands on another one; n tells it apart.
func on(prev api.Header, bits uint32, n int) api.Header {
	return api.Header{Prev: header.Id(prev), Bits: bits, Nonce: uint32(n)}
}

// model is a tree kept plainly.
type model struct {
	most  int
	nodes []tree.Node
}

func (m *model) find(id api.Hash) int {
	return slices.IndexFunc(m.nodes, func(n tree.Node) bool { return n.Id == id })
}

func (m *model) add(h api.Header) (int, api.Errno) {
	id := header.Id(h)
	if i := m.find(id); i >= 0 {
		return i, api.ErrKnown
	}
	parent := m.find(h.Prev)
	if len(m.nodes) > 0 && parent < 0 {
		return -1, api.ErrOrphan
	}
	if len(m.nodes) >= min(max(m.most, 0), 1<<20) {
		return -1, api.ErrFull
	}
	n := tree.Node{Id: id, Head: h, Parent: -1, Work: target.Work(h.Bits)}
	if len(m.nodes) > 0 {
		n.Parent, n.Height = parent, m.nodes[parent].Height+1
		n.Work, _ = u256.Add(m.nodes[parent].Work, n.Work)
	}
	m.nodes = append(m.nodes, n)
	return len(m.nodes) - 1, api.OK
}

func (m *model) line(i int) []int {
	var l []int
	if i >= 0 && i < len(m.nodes) {
		for ; i >= 0; i = m.nodes[i].Parent {
			l = append([]int{i}, l...)
		}
	}
	return l
}

func (m *model) best() (int, bool) {
	best := 0
	for i, n := range m.nodes {
		if u256.Cmp(n.Work, m.nodes[best].Work) > 0 {
			best = i
		}
	}
	return best, len(m.nodes) > 0
}

func (m *model) tips() []int {
	var l []int
	for i := range m.nodes {
		if !slices.ContainsFunc(m.nodes, func(n tree.Node) bool { return n.Parent == i }) {
			l = append(l, i)
		}
	}
	return l
}

func (m *model) common(i, j int) (int, bool) {
	a, b := m.line(i), m.line(j)
	last, ok := 0, false
	for k := 0; k < len(a) && k < len(b) && a[k] == b[k]; k++ {
		last, ok = a[k], true
	}
	return last, ok
}

// hold holds all that a tree tells against the model.
func hold(t *testing.T, x *tree.Tree, m *model) {
	t.Helper()
	n := len(m.nodes)
	gotBest, gotAny := x.Best()
	wantBest, wantAny := m.best()
	if x.Len() != n || gotBest != wantBest || gotAny != wantAny || !slices.Equal(x.Tips(), m.tips()) {
		t.Fatal("Len, Best, Tips", x.Len(), n, gotBest, wantBest, x.Tips(), m.tips())
	}
	numbers := []int{-1, n, n + 1, math.MinInt, math.MaxInt}
	for i := 0; i < n; i++ {
		numbers = append(numbers, i)
	}
	for _, i := range numbers {
		node, ok := x.Node(i)
		there := i >= 0 && i < n
		if ok != there || there && node != m.nodes[i] || !there && node != (tree.Node{}) {
			t.Fatal("Node", i, node, ok)
		}
		if there {
			if k, ok := x.Find(node.Id); k != i || !ok {
				t.Fatal("Find", i, k, ok)
			}
		}
		line := m.line(i)
		if !slices.Equal(x.Line(i), line) {
			t.Fatal("Line", i, x.Line(i), line)
		}
		for _, height := range []int{-1, 0, 1, 2, 3, len(line) - 1, len(line), math.MinInt, math.MaxInt} {
			k, ok := x.Above(i, height)
			if height < 0 || height >= len(line) {
				if ok || k != 0 {
					t.Fatal("Above", i, height, k, ok)
				}
			} else if !ok || k != line[height] {
				t.Fatal("Above", i, height, k, ok)
			}
		}
		for _, j := range numbers {
			k, ok := x.Common(i, j)
			if want, wok := m.common(i, j); k != want || ok != wok {
				t.Fatal("Common", i, j, k, ok)
			}
		}
	}
	if i, ok := x.Find(api.Hash{1, 2, 3}); i != 0 || ok {
		t.Fatal("Find of none", i, ok)
	}
}

// P15.1, P15.2, P15.3, P15.5
func TestTree(t *testing.T) {
	r := rand.New(rand.NewSource(1))
	bits := []uint32{easy, easy, easy, 0x2000ffff, 0x1d00ffff, 0, 0x1d80ffff}
	for k := 0; k < 60; k++ {
		most := []int{0, 1, 2, 5, 100, -1}[k%6]
		x, m := tree.New(most), &model{most: most}
		known := []api.Header{{Bits: bits[k%7], Prev: api.Hash{byte(k)}}}
		for i := 0; i < 25; i++ {
			h := known[0]
			switch {
			case i == 0:
			case r.Intn(6) == 0:
				h = known[r.Intn(len(known))]
			case r.Intn(6) == 0:
				h = api.Header{Nonce: uint32(i), Prev: api.Hash{9, 9}}
			default:
				h = on(known[max(len(known)-1-r.Intn(4), 0)], bits[r.Intn(len(bits))], i)
				known = append(known, h)
			}
			got, e := x.Add(h)
			want, we := m.add(h)
			if got != want || e != we {
				t.Fatal("Add", k, i, got, e, "want", want, we)
			}
		}
		hold(t, x, m)
	}
}

// P15.1: what applies first.
func TestAddOrder(t *testing.T) {
	first := api.Header{Bits: easy}
	x := tree.New(2)
	second := on(first, easy, 1)
	for k, y := range []struct {
		h    api.Header
		want int
		e    api.Errno
	}{
		{first, 0, api.OK}, {first, 0, api.ErrKnown}, {api.Header{Prev: api.Hash{7}}, -1, api.ErrOrphan}, {second, 1, api.OK}, {second, 1, api.ErrKnown}, {first, 0, api.ErrKnown},
		{on(second, easy, 2), -1, api.ErrFull}, {on(first, easy, 3), -1, api.ErrFull}, {on(on(second, easy, 2), easy, 3), -1, api.ErrOrphan}, {api.Header{Prev: api.Hash{7}}, -1, api.ErrOrphan},
	} {
		if i, e := x.Add(y.h); i != y.want || e != y.e {
			t.Error("Add", k, i, e)
		}
	}
	if x.Len() != 2 {
		t.Error("Len", x.Len())
	}
}

// P15.3: sums of works go round at 2^256, and then more work is none.
func TestWrap(t *testing.T) {
	const hardest = 0x01010000 // its target is 1: its work is 2^255
	first := api.Header{Bits: hardest}
	second := on(first, hardest, 1)
	third := on(second, easy, 2)
	x, m := tree.New(9), &model{most: 9}
	for _, h := range []api.Header{first, second, third} {
		x.Add(h)
		m.add(h)
	}
	hold(t, x, m)
	if node, _ := x.Node(1); node.Work != (u256.U{}) {
		t.Error("Work", node.Work)
	}
	if i, ok := x.Best(); i != 0 || !ok {
		t.Error("Best", i, ok)
	}
}

// P15.4
func TestNoTree(t *testing.T) {
	var none *tree.Tree
	for k, x := range []*tree.Tree{none, {}, tree.New(0), tree.New(-5), tree.New(math.MinInt)} {
		m := &model{}
		hold(t, x, m)
		for _, h := range []api.Header{{}, {Prev: api.Hash{1}}} {
			if i, e := x.Add(h); i != -1 || e != api.ErrFull {
				t.Error("Add", k, i, e)
			}
		}
		hold(t, x, m)
	}
}

// P15.1: there may be 2^20, and no more.
func TestMost(t *testing.T) {
	x := tree.New(math.MaxInt)
	h := api.Header{Bits: easy}
	id := header.Id(h)
	x.Add(h)
	for n := 1; n < 1<<20; n++ {
		if i, e := x.Add(api.Header{Prev: id, Nonce: uint32(n)}); i != n || e != api.OK {
			t.Fatal("Add", n, i, e)
		}
	}
	if i, e := x.Add(api.Header{Prev: id, Nonce: 1 << 20}); i != -1 || e != api.ErrFull || x.Len() != 1<<20 {
		t.Error("Add of one more", i, e)
	}
}

// Example 1.
func TestExample(t *testing.T) {
	first := api.Header{Bits: easy}
	x := tree.New(9)
	x.Add(first)
	x.Add(on(first, easy, 1))
	x.Add(on(first, easy, 2))
	if i, _ := x.Best(); i != 1 {
		t.Error("the one that came first", i)
	}
	x.Add(on(first, 0x2000ffff, 3))
	if i, _ := x.Best(); i != 3 {
		t.Error("the one with more work", i)
	}
}
