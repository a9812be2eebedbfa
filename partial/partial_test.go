package partial_test

import (
	"bytes"
	"math"
	"math/rand"
	"slices"
	"testing"

	"florin/api"
	"florin/hash"
	"florin/merkle"
	"florin/partial"
)

func leaves(n int) []api.Hash {
	r := rand.New(rand.NewSource(int64(n)))
	l := make([]api.Hash, n)
	for i := range l {
		r.Read(l[i][:])
	}
	return l
}

// model is a part of a tree as it is built and read by calls that call themselves.
type model struct {
	n      int
	hashes []api.Hash
	digits []bool
	seen   []partial.Match
	bad    bool
}

func (m *model) build(levels [][]api.Hash, match []bool, h, i int) {
	has := false
	for p := i << h; p < (i+1)<<h && p < m.n && p < len(match); p++ {
		has = has || match[p]
	}
	m.digits = append(m.digits, has)
	if h == 0 || !has {
		m.hashes = append(m.hashes, levels[h][i])
		return
	}
	m.build(levels, match, h-1, 2*i)
	if 2*i+1 < len(levels[h-1]) {
		m.build(levels, match, h-1, 2*i+1)
	}
}

func (m *model) flags() []byte {
	b := make([]byte, (len(m.digits)+7)/8)
	for i, one := range m.digits {
		if one {
			b[i/8] |= 1 << (i % 8)
		}
	}
	return b
}

func (m *model) read(h, i int) api.Hash {
	if m.bad || len(m.digits) == 0 {
		m.bad = true
		return api.Hash{}
	}
	one := m.digits[0]
	m.digits = m.digits[1:]
	if h == 0 || !one {
		if len(m.hashes) == 0 {
			m.bad = true
			return api.Hash{}
		}
		x := m.hashes[0]
		m.hashes = m.hashes[1:]
		if one {
			m.seen = append(m.seen, partial.Match{Pos: i, H: x})
		}
		return x
	}
	left := m.read(h-1, 2*i)
	right := left
	if 2*i+1 < merkle.Width(m.n, h-1) {
		right = m.read(h-1, 2*i+1)
		m.bad = m.bad || right == left
	}
	return hash.Pair(left, right)
}

func extract(t partial.Tree) (api.Hash, []partial.Match, api.Errno) {
	if t.Total == 0 || t.Total > 4096 || len(t.Hashes) > int(t.Total) || len(t.Hashes) > 8*len(t.Flags) {
		return api.Hash{}, nil, api.ErrMerkle
	}
	m := &model{n: int(t.Total), hashes: t.Hashes}
	for i := 0; i < 8*len(t.Flags); i++ {
		m.digits = append(m.digits, t.Flags[i/8]>>(i%8)&1 == 1)
	}
	root := m.read(merkle.Height(m.n), 0)
	if m.bad || len(m.hashes) > 0 || len(m.digits) >= 8 || slices.Contains(m.digits, true) {
		return api.Hash{}, nil, api.ErrMerkle
	}
	return root, m.seen, api.OK
}

func matches(n, k int) []bool {
	r := rand.New(rand.NewSource(int64(n*1000 + k)))
	match := make([]bool, n)
	for i := range match {
		switch k {
		case 0: // none
		case 1:
			match[i] = true
		case 2:
			match[i] = i == n-1
		case 3:
			match[i] = i == 0
		default:
			match[i] = r.Intn(k) == 0
		}
	}
	if k > 6 && n > 2 {
		match = match[:n/2] // shorter: false behind it
	}
	if k == 6 {
		match = append(match, true, true) // longer: no leaf is there
	}
	return match
}

var sizes = []int{1, 2, 3, 4, 5, 6, 7, 8, 9, 12, 13, 15, 16, 17, 63, 64, 65, 100, 1000, 4095, 4096}

func same(a, b partial.Tree) bool {
	return a.Total == b.Total && slices.Equal(a.Hashes, b.Hashes) && bytes.Equal(a.Flags, b.Flags)
}

// P11.1, P11.4, P11.5
func TestBuild(t *testing.T) {
	for _, n := range sizes {
		l := leaves(n)
		levels := merkle.Levels(l)
		for k := 0; k < 10; k++ {
			match := matches(n, k)
			m := &model{n: n}
			m.build(levels, match, len(levels)-1, 0)
			got, ok := partial.Build(l, match)
			if !ok || !same(got, partial.Tree{Total: uint32(n), Hashes: m.hashes, Flags: m.flags()}) {
				t.Fatal("Build", n, k, ok)
			}
			if hashes, digits := partial.Size(n, match); hashes != len(m.hashes) || digits != len(m.digits) {
				t.Fatal("Size", n, k, hashes, digits)
			}
			var want []partial.Match
			for i := range min(n, len(match)) {
				if match[i] {
					want = append(want, partial.Match{Pos: i, H: l[i]})
				}
			}
			root, seen, e := partial.Extract(got)
			if e != api.OK || root != levels[len(levels)-1][0] || !slices.Equal(seen, want) {
				t.Fatal("Extract", n, k, e, seen)
			}
		}
	}
	for _, n := range []int{0, 4097, 5000} {
		if got, ok := partial.Build(leaves(n), []bool{true}); ok || !same(got, partial.Tree{}) {
			t.Error("Build", n, ok)
		}
	}
	if got, ok := partial.Build(leaves(3), nil); !ok || len(got.Hashes) != 1 || !bytes.Equal(got.Flags, []byte{0}) || got.Total != 3 {
		t.Error("Build of no match", got, ok)
	}
}

// P11.4
func TestSize(t *testing.T) {
	for _, n := range []int{0, -1, math.MinInt} {
		if hashes, digits := partial.Size(n, []bool{true}); hashes != 0 || digits != 0 {
			t.Error("Size", n, hashes, digits)
		}
	}
	match := []bool{4095: true}
	h, d := partial.Size(4096, match)
	for _, n := range []int{4097, 100000, math.MaxInt} {
		if hashes, digits := partial.Size(n, match); hashes != h || digits != d || h != 13 || d != 25 {
			t.Error("Size", n, hashes, digits)
		}
	}
	if hashes, digits := partial.Size(5, nil); hashes != 1 || digits != 1 {
		t.Error("Size of no match", hashes, digits)
	}
}

func holds(t *testing.T, what any, x partial.Tree) {
	t.Helper()
	root, seen, e := partial.Extract(x)
	wroot, wseen, we := extract(x)
	if root != wroot || !slices.Equal(seen, wseen) || e != we {
		t.Fatal("Extract", what, e, seen, "want", we, wseen)
	}
}

// P11.2, P11.3: parts in which something is changed.
func TestExtractChanged(t *testing.T) {
	r := rand.New(rand.NewSource(7))
	wrong := 0
	for k := 0; k < 20000; k++ {
		n := 1 + r.Intn(20)
		match := make([]bool, n)
		for i := range match {
			match[i] = r.Intn(3) == 0
		}
		x, _ := partial.Build(leaves(n), match)
		switch r.Intn(9) {
		case 0:
			x.Total = uint32(r.Intn(25))
		case 1:
			x.Hashes = x.Hashes[:r.Intn(len(x.Hashes))]
		case 2:
			x.Hashes = append(slices.Clone(x.Hashes), api.Hash{1})
		case 3:
			x.Flags = x.Flags[:r.Intn(len(x.Flags))]
		case 4:
			x.Flags = append(bytes.Clone(x.Flags), byte(r.Intn(2)))
		case 5:
			x.Flags = bytes.Clone(x.Flags)
			x.Flags[r.Intn(len(x.Flags))] ^= 1 << r.Intn(8)
		case 6:
			x.Hashes = slices.Clone(x.Hashes)
			x.Hashes[r.Intn(len(x.Hashes))] = x.Hashes[r.Intn(len(x.Hashes))]
		case 7:
			x.Flags = make([]byte, r.Intn(4))
			r.Read(x.Flags)
		}
		holds(t, k, x)
		if _, _, e := partial.Extract(x); e != api.OK {
			wrong++
		}
	}
	if wrong < 1000 || wrong > 19000 {
		t.Error("changed parts are wrong:", wrong)
	}
}

// P11.3
func TestExtractWrong(t *testing.T) {
	x := leaves(4100)
	a, b, c := x[0], x[1], x[2]
	many := make([]byte, 1024)
	for k, y := range []struct {
		t partial.Tree
		e api.Errno
	}{
		{partial.Tree{}, api.ErrMerkle},
		{partial.Tree{Total: 0, Hashes: x[:1], Flags: []byte{0}}, api.ErrMerkle},
		{partial.Tree{Total: 1, Hashes: x[:1], Flags: []byte{1}}, api.OK},
		{partial.Tree{Total: 1, Hashes: x[:1], Flags: []byte{0}}, api.OK},
		{partial.Tree{Total: 1, Hashes: x[:1], Flags: []byte{2}}, api.ErrMerkle},
		{partial.Tree{Total: 1, Hashes: x[:1], Flags: []byte{0x81}}, api.ErrMerkle},
		{partial.Tree{Total: 1, Hashes: x[:1], Flags: []byte{1, 0}}, api.ErrMerkle},
		{partial.Tree{Total: 1, Hashes: x[:1]}, api.ErrMerkle},
		{partial.Tree{Total: 1, Flags: []byte{1}}, api.ErrMerkle},
		{partial.Tree{Total: 1, Hashes: x[:2], Flags: []byte{1}}, api.ErrMerkle},
		{partial.Tree{Total: 4096, Hashes: x[:1], Flags: []byte{0}}, api.OK},
		{partial.Tree{Total: 4097, Hashes: x[:1], Flags: []byte{0}}, api.ErrMerkle},
		{partial.Tree{Total: math.MaxUint32, Hashes: x[:1], Flags: []byte{0}}, api.ErrMerkle},
		{partial.Tree{Total: 1 << 31, Hashes: x[:1], Flags: []byte{0}}, api.ErrMerkle},
		{partial.Tree{Total: 2, Hashes: []api.Hash{a, b}, Flags: []byte{7}}, api.OK},
		{partial.Tree{Total: 2, Hashes: []api.Hash{a, b}, Flags: []byte{3}}, api.OK},
		{partial.Tree{Total: 2, Hashes: []api.Hash{a, b}, Flags: []byte{1}}, api.OK},
		{partial.Tree{Total: 2, Hashes: []api.Hash{a, a}, Flags: []byte{7}}, api.ErrMerkle},
		{partial.Tree{Total: 2, Hashes: []api.Hash{a, a}, Flags: []byte{1}}, api.ErrMerkle},
		{partial.Tree{Total: 2, Hashes: []api.Hash{a}, Flags: []byte{7}}, api.ErrMerkle},
		{partial.Tree{Total: 2, Hashes: []api.Hash{a, b}, Flags: []byte{0}}, api.ErrMerkle},
		{partial.Tree{Total: 3, Hashes: []api.Hash{a, b, c}, Flags: []byte{0x1b}}, api.OK},
		{partial.Tree{Total: 4, Hashes: []api.Hash{a, a}, Flags: []byte{1}}, api.ErrMerkle},
		{partial.Tree{Total: 4096, Hashes: x[:4096], Flags: many}, api.ErrMerkle},
		{partial.Tree{Total: 4096, Hashes: x[:4097], Flags: many}, api.ErrMerkle},
		{partial.Tree{Total: 100, Hashes: x[:9], Flags: []byte{255}}, api.ErrMerkle},
	} {
		holds(t, k, y.t)
		if _, _, e := partial.Extract(y.t); e != y.e {
			t.Error("Extract", k, e)
		}
	}
}

// Two that are paired, alike, the part of a tree that was made longer so, prove nothing.
func TestAlike(t *testing.T) {
	x := leaves(3)
	l := append(slices.Clone(x), x[2])
	part, ok := partial.Build(l, []bool{3: true})
	if !ok {
		t.Fatal("Build")
	}
	if root, seen, e := partial.Extract(part); e != api.ErrMerkle || root != (api.Hash{}) || len(seen) != 0 {
		t.Error(root, seen, e)
	}
	short, _ := partial.Build(x, []bool{2: true})
	if _, seen, e := partial.Extract(short); e != api.OK || !slices.Equal(seen, []partial.Match{{Pos: 2, H: x[2]}}) {
		t.Error(seen, e)
	}
}

// Example 1.
func TestExample(t *testing.T) {
	x := leaves(1)
	got, ok := partial.Build(x, []bool{true})
	if !ok || !same(got, partial.Tree{Total: 1, Hashes: x, Flags: []byte{1}}) {
		t.Error(got, ok)
	}
}
