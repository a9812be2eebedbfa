package watch_test

import (
	"bytes"
	"encoding/binary"
	"math"
	"slices"
	"testing"

	"florin/api"
	"florin/header"
	"florin/merkle"
	"florin/partial"
	"florin/tree"
	"florin/tx"
	"florin/watch"
	"florin/wire"
)

const easy = 0x207fffff

func same(a, b watch.Watch) bool {
	return slices.EqualFunc(a.Scripts, b.Scripts, bytes.Equal) && slices.Equal(a.Txs, b.Txs) && slices.Equal(a.Seens, b.Seens)
}

func id(n int) api.Hash {
	var h api.Hash
	binary.LittleEndian.PutUint32(h[:], uint32(n))
	h[31] = 1
	return h
}

func ids(from, n int) []api.Hash {
	var l []api.Hash
	for i := 0; i < n; i++ {
		l = append(l, id(from+i))
	}
	return l
}

// block is a header on another one, of transactions, and the part of its tree that proves some of these.
func block(t *testing.T, prev api.Header, l []api.Hash, at ...int) wire.Block {
	t.Helper()
	root, _ := merkle.Root(l)
	match := make([]bool, len(l))
	for _, i := range at {
		match[i] = true
	}
	part, ok := partial.Build(l, match)
	if !ok {
		t.Fatal("Build")
	}
	h := api.Header{Prev: header.Id(prev), Root: root, Bits: easy}
	return wire.Block{Head: h, Total: part.Total, Hashes: part.Hashes, Flags: part.Flags}
}

// P21.1
func TestScript(t *testing.T) {
	var w watch.Watch
	long := make([]byte, 10001)
	for k, x := range []struct {
		s []byte
		e api.Errno
	}{{[]byte("a"), api.OK}, {[]byte("b"), api.OK}, {[]byte("a"), api.ErrKnown}, {nil, api.OK}, {[]byte{}, api.ErrKnown}, {long[:10000], api.OK}, {long, api.ErrBig}, {[]byte("ab"), api.OK}} {
		got, e := watch.Script(w, x.s)
		want := w
		if x.e == api.OK {
			want.Scripts = append(slices.Clone(w.Scripts), x.s)
		}
		if e != x.e || !same(got, want) {
			t.Error("Script", k, e)
		}
		w = got
	}
	for len(w.Scripts) < 256 {
		w, _ = watch.Script(w, []byte{1, byte(len(w.Scripts))})
	}
	for k, x := range []struct {
		s []byte
		e api.Errno
	}{{[]byte("new"), api.ErrFull}, {[]byte("a"), api.ErrKnown}, {long, api.ErrBig}} {
		if got, e := watch.Script(w, x.s); e != x.e || !same(got, w) {
			t.Error("Script to a full one", k, e)
		}
	}
	known := watch.Watch{Scripts: [][]byte{long}}
	if got, e := watch.Script(known, long); e != api.ErrKnown || !same(got, known) {
		t.Error("a long one that is known", e)
	}
	other := watch.Watch{Txs: ids(0, 2), Seens: []watch.Seen{{Pos: 3}}}
	if got, _ := watch.Script(other, nil); !same(got, watch.Watch{Scripts: [][]byte{nil}, Txs: other.Txs, Seens: other.Seens}) {
		t.Error("all else is kept")
	}
}

func paying(script string, n int) tx.Tx {
	return tx.Tx{Version: uint32(n), Ins: []tx.In{{Prev: id(900)}}, Outs: []tx.Out{{Script: []byte(script)}}}
}

// P21.2
func TestNote(t *testing.T) {
	w := watch.Watch{Scripts: [][]byte{[]byte("mine")}, Txs: ids(0, 2), Seens: []watch.Seen{{Pos: 3}}}
	spending := tx.Tx{Ins: []tx.In{{Prev: id(5)}, {Prev: id(1)}}}
	noIns := tx.Tx{Outs: []tx.Out{{Script: []byte("mine")}}}
	bigOut := paying("mine", 1)
	bigOut.Outs = append(bigOut.Outs, tx.Out{Script: make([]byte, 10001)})
	for k, x := range []struct {
		t    tx.Tx
		want bool
	}{{paying("mine", 1), true}, {paying("other", 1), false}, {paying("", 1), false}, {spending, true}, {tx.Tx{Ins: []tx.In{{Prev: id(5)}}}, false}, {tx.Tx{}, false}, {noIns, false}, {bigOut, false}} {
		got, ok := watch.Note(w, x.t)
		want := w
		if x.want {
			h, _ := tx.Id(x.t)
			want.Txs = append(slices.Clone(w.Txs), h)
		}
		if ok != x.want || !same(got, want) {
			t.Error("Note", k, ok)
		}
		if x.want {
			if again, ok := watch.Note(got, x.t); ok || !same(again, got) {
				t.Error("Note of one twice", k, ok)
			}
		}
	}
	// What spends one that was noted is noted in turn.
	first := paying("mine", 7)
	w, _ = watch.Note(w, first)
	h, _ := tx.Id(first)
	if got, ok := watch.Note(w, tx.Tx{Ins: []tx.In{{Prev: h}}}); !ok || len(got.Txs) != 4 {
		t.Error("Note of what spends it", ok)
	}
	full := watch.Watch{Scripts: w.Scripts, Txs: ids(0, 4096)}
	if got, ok := watch.Note(full, first); ok || !same(got, full) {
		t.Error("Note to a full one", ok)
	}
	full.Txs = full.Txs[:4095]
	if got, ok := watch.Note(full, first); !ok || len(got.Txs) != 4096 {
		t.Error("Note of the last one", ok)
	}
}

// P21.3
func TestProve(t *testing.T) {
	first := api.Header{Bits: easy}
	x := tree.New(10)
	x.Add(first)
	l := ids(0, 7)
	b := block(t, first, l, 1, 4, 6)
	w := watch.Watch{Txs: []api.Hash{id(6), id(1), id(2)}}
	if got, n, e := watch.Prove(w, x, b); n != 0 || e != api.ErrOrphan || !same(got, w) {
		t.Error("a block that is not there", n, e)
	}
	bad := b
	bad.Total = 0
	if _, _, e := watch.Prove(w, x, bad); e != api.ErrOrphan {
		t.Error("a block that is not there, and proves nothing", e)
	}
	x.Add(b.Head)
	at := header.Id(b.Head)
	got, n, e := watch.Prove(w, x, b)
	want := w
	want.Seens = []watch.Seen{{id(1), at, 1}, {id(6), at, 6}}
	if n != 2 || e != api.OK || !same(got, want) {
		t.Error("Prove", n, e, got.Seens)
	}
	if again, n, e := watch.Prove(got, x, b); n != 0 || e != api.OK || !same(again, got) {
		t.Error("Prove of one twice", n, e)
	}
	more := got
	more.Txs = append(slices.Clone(got.Txs), id(4))
	if last, n, e := watch.Prove(more, x, b); n != 1 || e != api.OK || !slices.Equal(last.Seens, append(slices.Clone(want.Seens), watch.Seen{id(4), at, 4})) {
		t.Error("Prove of one more", n, e)
	}
	if none, n, e := watch.Prove(watch.Watch{}, x, b); n != 0 || e != api.OK || !same(none, watch.Watch{}) {
		t.Error("Prove of nothing that is watched", n, e)
	}
	for k, f := range []func(b *wire.Block){
		func(b *wire.Block) { b.Total = 0 }, func(b *wire.Block) { b.Total = 1 << 31 }, func(b *wire.Block) { b.Hashes = b.Hashes[1:] }, func(b *wire.Block) { b.Flags = append(bytes.Clone(b.Flags), 0) },
		func(b *wire.Block) { b.Hashes = append(slices.Clone(b.Hashes[1:]), b.Hashes[0]) }, func(b *wire.Block) { b.Total = 8 },
	} {
		bad := b
		f(&bad)
		if got, n, e := watch.Prove(w, x, bad); n != 0 || e != api.ErrMerkle || !same(got, w) {
			t.Error("a part that proves nothing", k, n, e)
		}
	}
	// The part is whole, but it is that of another block.
	other := block(t, b.Head, ids(20, 3), 1)
	x.Add(other.Head)
	mixed := b
	mixed.Head = other.Head
	if got, n, e := watch.Prove(w, x, mixed); n != 0 || e != api.ErrMerkle || !same(got, w) {
		t.Error("another root", n, e)
	}
	if got, n, e := watch.Prove(w, nil, b); n != 0 || e != api.ErrOrphan || !same(got, w) {
		t.Error("no tree", n, e)
	}
}

// P21.3: one transaction in two blocks, and at two places of one, is seen so often; 4096 times at most.
func TestProveOften(t *testing.T) {
	first := api.Header{Bits: easy}
	l := []api.Hash{id(1), id(2), id(3), id(1), id(5)}
	a := block(t, first, l, 0, 3)
	b := block(t, a.Head, l, 3)
	x := tree.New(10)
	for _, h := range []api.Header{first, a.Head, b.Head} {
		x.Add(h)
	}
	w := watch.Watch{Txs: []api.Hash{id(1)}}
	w, n, _ := watch.Prove(w, x, a)
	w, m, _ := watch.Prove(w, x, b)
	if n != 2 || m != 1 || !slices.Equal(w.Seens, []watch.Seen{{id(1), header.Id(a.Head), 0}, {id(1), header.Id(a.Head), 3}, {id(1), header.Id(b.Head), 3}}) {
		t.Error("Prove", n, m, w.Seens)
	}
	full := watch.Watch{Txs: w.Txs, Seens: make([]watch.Seen, 4095)}
	for i := range full.Seens {
		full.Seens[i].Pos = i
	}
	full, n, e := watch.Prove(full, x, a)
	if n != 1 || e != api.OK || len(full.Seens) != 4096 || full.Seens[4095].Pos != 0 {
		t.Error("Prove of the last one", n, e)
	}
	if got, n, e := watch.Prove(full, x, b); n != 0 || e != api.OK || !same(got, full) {
		t.Error("Prove to a full one", n, e)
	}
}

// P21.4, P21.5
func TestDepth(t *testing.T) {
	first := api.Header{Bits: easy}
	a := block(t, first, ids(1, 4), 0, 2)
	b := block(t, a.Head, ids(10, 4), 0)
	c := block(t, first, ids(3, 5), 0, 1) // another branch, that has id(3), too
	d := block(t, c.Head, ids(30, 2), 0)
	x := tree.New(10)
	for _, h := range []api.Header{first, a.Head, b.Head, c.Head, d.Head} {
		x.Add(h)
	}
	w := watch.Watch{Txs: []api.Hash{id(1), id(3), id(10), id(4), id(30)}}
	for _, y := range []wire.Block{d, a, b, c} {
		w, _, _ = watch.Prove(w, x, y)
	}
	seens := []watch.Seen{{id(30), header.Id(d.Head), 0}, {id(1), header.Id(a.Head), 0}, {id(3), header.Id(a.Head), 2}, {id(10), header.Id(b.Head), 0}, {id(3), header.Id(c.Head), 0}, {id(4), header.Id(c.Head), 1}}
	if !slices.Equal(w.Seens, seens) {
		t.Fatal(w.Seens)
	}
	w.Seens = append(w.Seens, watch.Seen{Id: id(77), Block: api.Hash{1}, Pos: 5}) // of a block that is not there
	depths := map[int][]int{
		0: {0, 0, 0, 0, 0, 0, 0}, 1: {0, 1, 1, 0, 0, 0, 0}, 2: {0, 2, 2, 1, 0, 0, 0}, 3: {0, 0, 0, 0, 1, 1, 0}, 4: {1, 0, 0, 0, 2, 2, 0},
		-1: make([]int, 7), 5: make([]int, 7), math.MinInt: make([]int, 7), math.MaxInt: make([]int, 7),
	}
	for tip, want := range depths {
		var all []watch.Conf
		for i, s := range w.Seens {
			all = append(all, watch.Conf{Id: s.Id, Block: s.Block, Pos: s.Pos, Depth: want[i]})
		}
		if got := watch.All(w, x, tip); !slices.Equal(got, all) {
			t.Error("All", tip, got)
		}
		for _, n := range []int{1, 3, 10, 4, 30, 77, 2, 99} {
			k := slices.IndexFunc(all, func(c watch.Conf) bool { return c.Id == id(n) && c.Depth > 0 })
			got, ok := watch.Depth(w, x, tip, id(n))
			if ok != (k >= 0) || ok && got != all[k] || !ok && got != (watch.Conf{}) {
				t.Error("Depth", tip, n, got, ok)
			}
		}
	}
	if got := watch.All(w, nil, 0); len(got) != 7 || got[0].Depth != 0 {
		t.Error("All of no tree", got)
	}
	if got, ok := watch.Depth(w, nil, 0, id(1)); ok || got != (watch.Conf{}) {
		t.Error("Depth of no tree", got)
	}
	twice := watch.Watch{Seens: []watch.Seen{{id(1), header.Id(a.Head), 9}, {id(1), header.Id(a.Head), 4}}}
	if got, _ := watch.Depth(twice, x, 2, id(1)); got.Pos != 9 {
		t.Error("Depth of the first one", got)
	}
}

// What is watched goes on in two ways, and both are kept apart.
func TestTwice(t *testing.T) {
	w := watch.Watch{Scripts: make([][]byte, 0, 9), Txs: make([]api.Hash, 0, 9), Seens: make([]watch.Seen, 0, 9)}
	a, _ := watch.Script(w, []byte("a"))
	b, _ := watch.Script(w, []byte("b"))
	c, _ := watch.Note(a, paying("a", 1))
	a.Txs = make([]api.Hash, 0, 9)
	d, _ := watch.Note(a, paying("a", 2))
	e, _ := watch.Note(a, paying("a", 3))
	if string(a.Scripts[0]) != "a" || string(b.Scripts[0]) != "b" || len(c.Txs) != 1 || d.Txs[0] == e.Txs[0] {
		t.Error(a, b, c, d, e)
	}
	first := api.Header{Bits: easy}
	x, y := block(t, first, ids(0, 2), 0), block(t, first, ids(1, 2), 1)
	forest := tree.New(5)
	for _, h := range []api.Header{first, x.Head, y.Head} {
		forest.Add(h)
	}
	w.Txs = ids(0, 5)
	f, _, _ := watch.Prove(w, forest, x)
	g, _, _ := watch.Prove(w, forest, y)
	if f.Seens[0].Id != id(0) || g.Seens[0].Id != id(2) {
		t.Error(f.Seens, g.Seens)
	}
}

// Example 1.
func TestExample(t *testing.T) {
	first := api.Header{Bits: easy}
	b := block(t, first, ids(1, 1), 0)
	x := tree.New(5)
	x.Add(first)
	tip, _ := x.Add(b.Head)
	w, _, _ := watch.Prove(watch.Watch{Txs: ids(1, 1)}, x, b)
	if c, ok := watch.Depth(w, x, tip, id(1)); !ok || c.Depth != 1 {
		t.Error(c, ok)
	}
}
