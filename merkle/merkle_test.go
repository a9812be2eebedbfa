package merkle_test

import (
	"crypto/sha256"
	"math"
	"math/rand"
	"slices"
	"testing"

	"florin/api"
	"florin/merkle"
)

func leaves(n int) []api.Hash {
	r := rand.New(rand.NewSource(int64(n)))
	l := make([]api.Hash, n)
	for i := range l {
		r.Read(l[i][:])
	}
	return l
}

func pair(a, b api.Hash) api.Hash {
	once := sha256.Sum256(slices.Concat(a[:], b[:]))
	return sha256.Sum256(once[:])
}

// levels are these as the chapter tells them.
func levels(l []api.Hash) [][]api.Hash {
	if len(l) == 0 || len(l) > 4096 {
		return nil
	}
	all := [][]api.Hash{l}
	for len(l) > 1 {
		if len(l)%2 == 1 {
			l = append(slices.Clone(l), l[len(l)-1])
		}
		var next []api.Hash
		for i := 0; i < len(l); i += 2 {
			next = append(next, pair(l[i], l[i+1]))
		}
		all = append(all, next)
		l = next
	}
	return all
}

var sizes = []int{1, 2, 3, 4, 5, 6, 7, 8, 9, 11, 13, 16, 17, 31, 32, 33, 100, 257, 4095, 4096}

// P10.1
func TestWidth(t *testing.T) {
	for _, n := range append([]int{0, -1, 4097, 5000, math.MaxInt, math.MinInt}, sizes...) {
		many := min(max(n, 0), 4096)
		least := -1
		for _, h := range []int{0, 1, 2, 3, 4, 5, 6, 7, 8, 9, 10, 11, 12, 13, 14, 63, 64, math.MaxInt} {
			want := (many + 1<<min(h, 12) - 1) / (1 << min(h, 12))
			if merkle.Width(n, h) != want {
				t.Error("Width", n, h, merkle.Width(n, h), want)
			}
			if want <= 1 && least < 0 {
				least = h
			}
		}
		if merkle.Height(n) != least {
			t.Error("Height", n, merkle.Height(n), least)
		}
		for _, h := range []int{-1, -64, math.MinInt} {
			if merkle.Width(n, h) != 0 {
				t.Error("Width", n, h)
			}
		}
	}
}

// P10.1, P10.2
func TestLevels(t *testing.T) {
	for _, n := range sizes {
		l := leaves(n)
		got, want := merkle.Levels(l), levels(l)
		if !slices.EqualFunc(got, want, slices.Equal) {
			t.Fatal("Levels", n)
		}
		if len(got)-1 != merkle.Height(n) {
			t.Error("Height", n)
		}
		for h, level := range got {
			if len(level) != merkle.Width(n, h) {
				t.Error("Width", n, h)
			}
		}
		if root, alike := merkle.Root(l); root != want[len(want)-1][0] || alike {
			t.Error("Root", n, alike)
		}
	}
	for _, n := range []int{0, 4097, 5000} {
		l := leaves(n)
		if n > 1 {
			l[1] = l[0]
		}
		if root, alike := merkle.Root(l); len(merkle.Levels(l)) != 0 || root != (api.Hash{}) || alike {
			t.Error("no levels", n)
		}
	}
}

// P10.2: alike are told only where the first one stands at an even place, the other one right behind it.
func TestAlike(t *testing.T) {
	x := leaves(8)
	a, b, c, d, e, f := x[0], x[1], x[2], x[3], x[4], x[5]
	for k, y := range []struct {
		l    []api.Hash
		want bool
	}{
		{[]api.Hash{a}, false}, {[]api.Hash{a, a}, true}, {[]api.Hash{a, b, b}, false}, {[]api.Hash{a, b, b, c}, false}, {[]api.Hash{a, b, a, c}, false},
		{[]api.Hash{a, b, c, c}, true}, {[]api.Hash{a, a, b}, true}, {[]api.Hash{a, b, c, d, a, b}, false}, {[]api.Hash{a, b, c, d, c, d}, false},
		{[]api.Hash{a, b, a, b}, true}, {[]api.Hash{a, b, c, d, e, f, e, f}, true}, {[]api.Hash{a, b, c, d, a, b, c, d}, true}, {[]api.Hash{a, b, c, d, e}, false},
		{[]api.Hash{a, b, c, d, e, e}, true}, {[]api.Hash{a, b, c, d, e, f, e}, false}, {[]api.Hash{a, b, c, d, e, e, e, e}, true}, {[]api.Hash{a, b, c, a}, false},
	} {
		levels := levels(y.l)
		root, alike := merkle.Root(y.l)
		if alike != y.want || root != levels[len(levels)-1][0] {
			t.Error("Root", k, alike)
		}
	}
	for _, n := range []int{4, 100, 4096} {
		for _, i := range []int{0, 1, 2, n/2 - 1, n - 2} {
			l := leaves(n)
			l[i+1] = l[i]
			if _, alike := merkle.Root(l); alike != (i%2 == 0) {
				t.Error("Root of alike ones at", i, n)
			}
		}
	}
}

// P10.3, P10.4
func TestBranch(t *testing.T) {
	for _, n := range sizes {
		l := leaves(n)
		all := levels(l)
		root, _ := merkle.Root(l)
		for i := 0; i < n; i += 1 + n/40 {
			var want []api.Hash
			for h := 0; h < len(all)-1; h++ {
				at := i>>h ^ 1
				if at >= len(all[h]) {
					at = i >> h
				}
				want = append(want, all[h][at])
			}
			got, ok := merkle.Branch(l, i)
			if !ok || !slices.Equal(got, want) {
				t.Fatal("Branch", n, i, ok)
			}
			if merkle.Climb(l[i], got, i) != root {
				t.Fatal("Climb", n, i)
			}
		}
		for _, i := range []int{-1, n, n + 1, math.MinInt, math.MaxInt} {
			if got, ok := merkle.Branch(l, i); ok || len(got) != 0 {
				t.Error("Branch", n, i)
			}
		}
	}
	for _, n := range []int{0, 4097} {
		if got, ok := merkle.Branch(leaves(n), 0); ok || len(got) != 0 {
			t.Error("Branch of no levels", n)
		}
	}
}

// P10.3
func TestClimb(t *testing.T) {
	x := leaves(80)
	for _, n := range []int{0, 1, 2, 5, 70} {
		branch := x[1 : 1+n]
		for _, i := range []int{0, 1, 2, 5, 22, 31, math.MaxInt, -1, -2, math.MinInt} {
			want, at := x[0], max(i, 0)
			for k, y := range branch {
				if k < 63 && at>>k&1 == 1 {
					want = pair(y, want)
				} else {
					want = pair(want, y)
				}
			}
			if merkle.Climb(x[0], branch, i) != want {
				t.Error("Climb", n, i)
			}
		}
	}
}

// Example 1.
func TestExample(t *testing.T) {
	x := leaves(3)
	one, alike := merkle.Root(x)
	other, more := merkle.Root(append(x, x[2]))
	if one != other || alike || !more {
		t.Error(alike, more)
	}
}
