package clock_test

import (
	"math"
	"math/rand"
	"slices"
	"testing"

	"florin/api"
	"florin/clock"
)

// P14.1, P14.3
func TestMedian(t *testing.T) {
	r := rand.New(rand.NewSource(1))
	for n := 0; n < 40; n++ {
		for k := 0; k < 20; k++ {
			l := make([]uint32, n)
			for i := range l {
				l[i] = r.Uint32() >> r.Intn(32)
			}
			before := slices.Clone(l)
			want := slices.Clone(l[max(n-11, 0):])
			slices.Sort(want)
			if got := clock.Last(l); !slices.Equal(got, want) || !slices.Equal(l, before) {
				t.Fatal("Last", before, got)
			}
			var middle uint32
			if n > 0 {
				middle = want[len(want)/2]
			}
			if clock.Median(l) != middle {
				t.Fatal("Median", l, clock.Median(l))
			}
			tail := l[max(n-11, 0):]
			r.Shuffle(len(tail), func(i, j int) { tail[i], tail[j] = tail[j], tail[i] })
			if clock.Median(l) != middle || n > 0 && !slices.Contains(tail, middle) {
				t.Fatal("Median in another order", l)
			}
		}
	}
	for _, x := range []struct {
		l    []uint32
		want uint32
	}{{nil, 0}, {[]uint32{7}, 7}, {[]uint32{7, 3}, 7}, {[]uint32{3, 7}, 7}, {[]uint32{1, 2, 3, 4}, 3}, {[]uint32{99, 98, 1, 2, 3, 4, 5, 6, 7, 8, 9, 10, 11}, 6}, {[]uint32{math.MaxUint32, 1, math.MaxUint32}, math.MaxUint32}} {
		if clock.Median(x.l) != x.want {
			t.Error("Median", x.l, clock.Median(x.l))
		}
	}
}

// P14.2
func TestCheck(t *testing.T) {
	l := []uint32{5, 1, 3}
	most := uint32(math.MaxUint32)
	for k, x := range []struct {
		t           uint32
		l           []uint32
		now, future int
		want        api.Errno
	}{
		{4, l, 100, 0, api.OK}, {3, l, 100, 0, api.ErrTime}, {2, l, 100, 0, api.ErrTime}, {0, l, 100, 0, api.ErrTime}, {6, l, 100, 0, api.OK},
		{0, nil, 0, 0, api.OK}, {1, nil, 0, 0, api.ErrTime}, {0, []uint32{}, 0, 0, api.OK}, {0, []uint32{0}, 9, 9, api.ErrTime}, {1, []uint32{0}, 9, 9, api.OK},
		{110, l, 100, 10, api.OK}, {111, l, 100, 10, api.ErrTime}, {109, l, 100, 10, api.OK}, {100, l, 100, 0, api.OK}, {101, l, 100, 0, api.ErrTime}, {10, l, 0, 10, api.OK}, {11, l, 0, 10, api.ErrTime},
		{10, l, -50, 10, api.OK}, {11, l, -50, 10, api.ErrTime}, {100, l, 100, -50, api.OK}, {101, l, 100, -50, api.ErrTime}, {10, l, math.MinInt, 10, api.OK}, {100, l, 100, math.MinInt, api.OK},
		{most, l, math.MaxInt, math.MaxInt, api.OK}, {most, l, math.MaxInt, 0, api.OK}, {most, l, 0, math.MaxInt, api.OK}, {most, l, 1<<32 - 1, 0, api.OK}, {most, l, 1<<32 - 2, 0, api.ErrTime}, {most, l, 1<<32 - 2, 1, api.OK},
		{2, l, 0, 0, api.ErrTime},
	} {
		if e := clock.Check(x.t, x.l, x.now, x.future); e != x.want {
			t.Error("Check", k, e)
		}
	}
}

// P14.1
func TestTimes(t *testing.T) {
	if len(clock.Times(nil)) != 0 {
		t.Error("Times of none")
	}
	if got := clock.Times([]api.Header{{Time: 9}, {Time: 2}, {Time: 9}, {Time: math.MaxUint32}}); !slices.Equal(got, []uint32{9, 2, 9, math.MaxUint32}) {
		t.Error("Times", got)
	}
}

// Example 1.
func TestExample(t *testing.T) {
	l := []uint32{5, 1, 3}
	if clock.Median(l) != 3 || clock.Check(3, l, 100, 100) != api.ErrTime {
		t.Error(clock.Median(l))
	}
}
