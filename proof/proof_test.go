package proof_test

import (
	"bytes"
	"math"
	"math/rand"
	"slices"
	"testing"

	"florin/api"
	"florin/hash"
	"florin/merkle"
	"florin/partial"
	"florin/proof"
	"florin/sha2"
)

func leaves(n int) []api.Hash {
	r := rand.New(rand.NewSource(int64(n)))
	l := make([]api.Hash, n)
	for i := range l {
		r.Read(l[i][:])
	}
	return l
}

func part(t *testing.T, l []api.Hash, at ...int) partial.Tree {
	t.Helper()
	match := make([]bool, len(l))
	for _, i := range at {
		match[i] = true
	}
	x, ok := partial.Build(l, match)
	if !ok {
		t.Fatal("Build")
	}
	return x
}

var sizes = []int{1, 2, 3, 4, 5, 6, 7, 8, 9, 11, 12, 13, 16, 17, 33, 100, 1023}

// P12.1, P12.2, P12.5
func TestPath(t *testing.T) {
	r := rand.New(rand.NewSource(1))
	for _, n := range sizes {
		l := leaves(n)
		root, _ := merkle.Root(l)
		for k := 0; k < 8; k++ {
			pos := []int{0, n - 1, r.Intn(n)}[k%3]
			other := r.Intn(n)
			x := part(t, l, pos, other)
			path, ok := proof.Path(x, pos)
			want, _ := merkle.Branch(l, pos)
			if !ok || !slices.Equal(path, want) {
				t.Fatal("Path", n, pos, ok)
			}
			if merkle.Climb(l[pos], path, pos) != root {
				t.Fatal("Climb", n, pos)
			}
			if !proof.Check(x, root, pos, l[pos]) {
				t.Fatal("Check", n, pos)
			}
			for _, i := range []int{-1, n, 5000, math.MinInt, math.MaxInt, (pos + 1) % n, (other + 1) % n} {
				if i == pos || i == other {
					continue
				}
				if path, ok := proof.Path(x, i); ok || len(path) != 0 {
					t.Fatal("Path of no match", n, i)
				}
				if proof.Check(x, root, i, l[pos]) || i >= 0 && i < n && proof.Check(x, root, i, l[i]) {
					t.Fatal("Check of no match", n, i)
				}
			}
			bad := root
			bad[31]++
			if proof.Check(x, bad, pos, l[pos]) || proof.Check(x, root, pos, bad) {
				t.Fatal("Check of another root, or hash", n)
			}
			x.Hashes = append(slices.Clone(x.Hashes), api.Hash{})
			if path, ok := proof.Path(x, pos); ok || len(path) != 0 || proof.Check(x, root, pos, l[pos]) {
				t.Fatal("a part that is not accepted", n)
			}
		}
	}
	if path, ok := proof.Path(partial.Tree{}, 0); ok || len(path) != 0 || proof.Check(partial.Tree{}, api.Hash{}, 0, api.Hash{}) {
		t.Error("no part")
	}
}

// P12.3
func TestSteps(t *testing.T) {
	l := leaves(80)
	for _, n := range []int{0, 1, 2, 5, 70} {
		for _, i := range []int{0, 1, 2, 5, 21, math.MaxInt, -1, math.MinInt} {
			path := l[1 : 1+n]
			steps := proof.Steps(l[0], path, i)
			if len(steps) != n {
				t.Fatal("Steps", n, i, len(steps))
			}
			x, at := l[0], max(i, 0)
			for k, text := range steps {
				want := slices.Concat(x[:], path[k][:])
				if k < 63 && at>>k&1 == 1 {
					want = slices.Concat(path[k][:], x[:])
				}
				if !bytes.Equal(text, want) {
					t.Fatal("Steps", n, i, k)
				}
				x = sha2.Double(text)
			}
			if x != merkle.Climb(l[0], path, i) {
				t.Fatal("they do not climb", n, i)
			}
		}
	}
}

func noClash(t *testing.T, what string, a, b partial.Tree, pos int) {
	t.Helper()
	if x, y, ok := proof.Clash(a, b, pos); ok || len(x) != 0 || len(y) != 0 {
		t.Error(what, ok)
	}
}

// P12.4. No two texts with one sum are known, so no two parts clash; witness_test.go has those that would.
func TestClash(t *testing.T) {
	l := leaves(7)
	other := slices.Clone(l)
	other[2] = api.Hash{1}
	a, b, c := part(t, l, 2), part(t, l, 2, 5), part(t, other, 2)
	noClash(t, "itself", a, a, 2)
	noClash(t, "one leaf", a, b, 2)
	noClash(t, "another root", a, c, 2)
	noClash(t, "no match", a, b, 5)
	noClash(t, "no match", b, a, 5)
	noClash(t, "no leaf", a, b, 9)
	noClash(t, "no leaf", a, b, -1)
	noClash(t, "no part", a, partial.Tree{}, 2)
	noClash(t, "no part", partial.Tree{}, a, 2)

	// One root, and unlike leaves at one place, but another Total: a node of one is a leaf of the other.
	two := leaves(2)
	top := hash.Pair(two[0], two[1])
	one := part(t, []api.Hash{top}, 0)
	noClash(t, "another Total", part(t, two, 0), one, 0)
	noClash(t, "another Total", one, part(t, two, 0), 0)
	longer := slices.Concat(leaves(3), leaves(3)[2:])
	noClash(t, "two alike", part(t, leaves(3), 2), part(t, longer, 2), 2)
}

// Example 1.
func TestExample(t *testing.T) {
	x := part(t, leaves(5), 3)
	noClash(t, "itself", x, x, 3)
}
