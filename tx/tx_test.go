package tx_test

import (
	"bytes"
	"crypto/sha256"
	"encoding/binary"
	"math/rand"
	"slices"
	"testing"

	"florin/api"
	"florin/tx"
)

func count(b []byte, n int) []byte {
	switch {
	case n < 253:
		return append(b, byte(n))
	case n < 1<<16:
		return binary.LittleEndian.AppendUint16(append(b, 253), uint16(n))
	}
	return binary.LittleEndian.AppendUint32(append(b, 254), uint32(n))
}

// text is a transaction's bytes, as the chapter tells them.
func text(t tx.Tx) []byte {
	b := binary.LittleEndian.AppendUint32(nil, t.Version)
	b = count(b, len(t.Ins))
	for _, in := range t.Ins {
		b = append(b, in.Prev[:]...)
		b = binary.LittleEndian.AppendUint32(b, in.Index)
		b = append(count(b, len(in.Script)), in.Script...)
		b = binary.LittleEndian.AppendUint32(b, in.Seq)
	}
	b = count(b, len(t.Outs))
	for _, out := range t.Outs {
		b = binary.LittleEndian.AppendUint64(b, out.Value)
		b = append(count(b, len(out.Script)), out.Script...)
	}
	return binary.LittleEndian.AppendUint32(b, t.Lock)
}

func same(a, b tx.Tx) bool {
	ins := slices.EqualFunc(a.Ins, b.Ins, func(x, y tx.In) bool {
		return x.Prev == y.Prev && x.Index == y.Index && x.Seq == y.Seq && bytes.Equal(x.Script, y.Script)
	})
	outs := slices.EqualFunc(a.Outs, b.Outs, func(x, y tx.Out) bool {
		return x.Value == y.Value && bytes.Equal(x.Script, y.Script)
	})
	return ins && outs && a.Version == b.Version && a.Lock == b.Lock
}

func script(r *rand.Rand, n int) []byte {
	b := make([]byte, n)
	r.Read(b)
	return b
}

func some(r *rand.Rand, ins, outs, most int) tx.Tx {
	t := tx.Tx{Version: r.Uint32(), Lock: r.Uint32()}
	for i := 0; i < ins; i++ {
		in := tx.In{Index: r.Uint32(), Seq: r.Uint32(), Script: script(r, r.Intn(most+1))}
		r.Read(in.Prev[:])
		t.Ins = append(t.Ins, in)
	}
	for i := 0; i < outs; i++ {
		t.Outs = append(t.Outs, tx.Out{Value: r.Uint64(), Script: script(r, r.Intn(most+1))})
	}
	return t
}

// edges are transactions that are just sane.
func edges() []tx.Tx {
	r := rand.New(rand.NewSource(1))
	long := some(r, 2, 2, 5)
	long.Ins[1].Script = script(r, 10000)
	long.Outs[1].Script = script(r, 10000)
	l := []tx.Tx{some(r, 1, 0, 0), some(r, 1, 1, 0), some(r, 1000, 1000, 3), some(r, 252, 253, 3), some(r, 253, 252, 1), some(r, 1000, 0, 0), long}
	for i := 0; i < 50; i++ {
		l = append(l, some(r, 1+r.Intn(4), r.Intn(4), 300))
	}
	return l
}

// insane are transactions that are just not.
func insane() []tx.Tx {
	r := rand.New(rand.NewSource(2))
	longIn, longOut, first := some(r, 2, 2, 5), some(r, 2, 2, 5), some(r, 2, 2, 5)
	longIn.Ins[1].Script = make([]byte, 10001)
	longOut.Outs[1].Script = make([]byte, 10001)
	first.Outs[0].Script = make([]byte, 10001)
	return []tx.Tx{{}, some(r, 0, 1, 1), some(r, 1001, 1, 0), some(r, 1, 1001, 0), longIn, longOut, first}
}

// P8.1
func TestPut(t *testing.T) {
	for k, x := range edges() {
		if !tx.Sane(x) {
			t.Fatal("Sane", k)
		}
		if b, e := tx.Put(x); e != api.OK || !bytes.Equal(b, text(x)) {
			t.Fatal("Put", k, e)
		}
	}
	for k, x := range insane() {
		if tx.Sane(x) {
			t.Fatal("Sane", k)
		}
		if b, e := tx.Put(x); e != api.ErrBig || len(b) != 0 {
			t.Fatal("Put", k, e)
		}
	}
}

// P8.2
func TestId(t *testing.T) {
	for k, x := range edges() {
		once := sha256.Sum256(text(x))
		if h, e := tx.Id(x); e != api.OK || h != sha256.Sum256(once[:]) {
			t.Fatal("Id", k, e)
		}
	}
	for k, x := range insane() {
		if h, e := tx.Id(x); e != api.ErrBig || h != (api.Hash{}) {
			t.Fatal("Id", k, e)
		}
	}
}

func wrong(t *testing.T, what any, b []byte, want api.Errno) {
	t.Helper()
	if g, n, e := tx.Get(b); e != want || n != 0 || !same(g, tx.Tx{}) {
		t.Errorf("%v: %d, %v, want %v", what, n, e, want)
	}
}

// P8.2, P8.4
func TestGet(t *testing.T) {
	for k, x := range edges() {
		b := text(x)
		for _, more := range [][]byte{nil, {0}, {1, 2, 3}} {
			if g, n, e := tx.Get(slices.Concat(b, more)); e != api.OK || n != len(b) || !same(g, x) {
				t.Fatal("Get", k, n, e)
			}
		}
		for n := 0; n < len(b); n += 1 + len(b)/300 {
			wrong(t, k, b[:n], api.ErrShort)
		}
		wrong(t, k, b[:len(b)-1], api.ErrShort)
	}
}

// P8.2: in the order in which it is read.
func TestGetWrong(t *testing.T) {
	version := []byte{1, 0, 0, 0}
	with := func(l ...[]byte) []byte { return slices.Concat(append([][]byte{version}, l...)...) }
	out36 := make([]byte, 36)
	short := []byte{0, 0, 0, 0}
	in := slices.Concat(out36, []byte{0}, short)
	for k, x := range []struct {
		b []byte
		e api.Errno
	}{
		{nil, api.ErrShort}, {version[:3], api.ErrShort}, {version, api.ErrShort},
		{with([]byte{0}), api.ErrForm}, {with([]byte{0, 0, 0, 0, 0}), api.ErrForm},
		{with([]byte{253, 0, 0}), api.ErrForm}, {with([]byte{253, 1, 0}), api.ErrForm}, {with([]byte{253, 1}), api.ErrShort},
		{with([]byte{253, 0xe8, 3}), api.ErrShort}, {with([]byte{253, 0xe9, 3}), api.ErrBig}, {with([]byte{255, 0, 0, 0, 0, 0, 0, 0, 1}), api.ErrBig},
		{with([]byte{1}, out36[:35]), api.ErrShort}, {with([]byte{1}, out36), api.ErrShort},
		{with([]byte{1}, out36, []byte{253, 0x10, 0x27}), api.ErrShort}, {with([]byte{1}, out36, []byte{253, 0x11, 0x27}), api.ErrBig},
		{with([]byte{1}, out36, []byte{253, 1, 0}), api.ErrForm}, {with([]byte{1}, out36, []byte{5, 1, 2, 3, 4}), api.ErrShort},
		{with([]byte{1}, out36, []byte{0}, short[:3]), api.ErrShort},
		{with([]byte{1}, in), api.ErrShort}, {with([]byte{2}, in), api.ErrShort},
		{with([]byte{1}, in, []byte{253, 0xe9, 3}), api.ErrBig}, {with([]byte{1}, in, []byte{253, 0xe8, 3}), api.ErrShort}, {with([]byte{1}, in, []byte{253, 2, 0}), api.ErrForm},
		{with([]byte{1}, in, []byte{1}, make([]byte, 7)), api.ErrShort}, {with([]byte{1}, in, []byte{1}, make([]byte, 8)), api.ErrShort},
		{with([]byte{1}, in, []byte{1}, make([]byte, 8), []byte{253, 0x11, 0x27}), api.ErrBig}, {with([]byte{1}, in, []byte{1}, make([]byte, 8), []byte{254, 0, 0, 0, 0}), api.ErrForm},
		{with([]byte{1}, in, []byte{1}, make([]byte, 8), []byte{0}, short[:3]), api.ErrShort}, {with([]byte{1}, in, []byte{0}, short[:3]), api.ErrShort},
	} {
		wrong(t, k, x.b, x.e)
	}
	if g, n, e := tx.Get(with([]byte{1}, in, []byte{0}, short)); e != api.OK || n != 51 || g.Version != 1 {
		t.Error("no Outs", g, n, e)
	}
}

// P8.3
func TestTouches(t *testing.T) {
	a, b, c := []byte("a"), []byte("b"), []byte("ccc")
	p, q := api.Hash{1}, api.Hash{31: 2}
	x := tx.Tx{Ins: []tx.In{{Prev: p, Script: c}, {Prev: q}}, Outs: []tx.Out{{Script: a}, {Script: b}}}
	for k, y := range []struct {
		t       tx.Tx
		scripts [][]byte
		spent   []api.Hash
		want    bool
	}{
		{x, nil, nil, false},
		{x, [][]byte{a}, nil, true},
		{x, [][]byte{c, b}, nil, true},
		{x, [][]byte{c}, nil, false},
		{x, [][]byte{{}}, nil, false},
		{x, [][]byte{[]byte("ab"), []byte("aa")}, nil, false},
		{x, nil, []api.Hash{p}, true},
		{x, nil, []api.Hash{{9}, q}, true},
		{x, nil, []api.Hash{{9}, {}}, false},
		{x, [][]byte{c}, []api.Hash{{9}}, false},
		{x, [][]byte{c}, []api.Hash{q}, true},
		{tx.Tx{Outs: []tx.Out{{Script: a}}}, [][]byte{a}, nil, true},
		{tx.Tx{Outs: []tx.Out{{}}}, [][]byte{nil}, nil, true},
		{tx.Tx{Outs: []tx.Out{{Script: []byte{}}}}, [][]byte{nil}, nil, true},
		{tx.Tx{}, [][]byte{nil, a}, []api.Hash{{}}, false},
		{tx.Tx{Ins: []tx.In{{}}}, nil, []api.Hash{{}}, true},
	} {
		if tx.Touches(y.t, y.scripts, y.spent) != y.want {
			t.Error("Touches", k)
		}
	}
}

// Example 1.
func TestExample(t *testing.T) {
	b, e := tx.Put(tx.Tx{Ins: make([]tx.In, 1), Outs: make([]tx.Out, 1)})
	if len(b) != 60 || e != api.OK {
		t.Error(len(b), e)
	}
}
