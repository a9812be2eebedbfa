package retarget_test

import (
	"math"
	"math/rand"
	"testing"

	"florin/api"
	"florin/retarget"
	"florin/target"
	"florin/u256"
)

func params() api.Params {
	return api.Params{Limit: 0x1d00ffff, Interval: 2016, Span: 1209600, Future: 7200, Index: 1000, Orphans: 10}
}

// P13.1
func TestSane(t *testing.T) {
	with := func(f func(p *api.Params)) api.Params {
		p := params()
		f(&p)
		return p
	}
	set := func(at func(p *api.Params) *int, n int) api.Params {
		return with(func(p *api.Params) { *at(p) = n })
	}
	for _, x := range []struct {
		name      string
		at        func(p *api.Params) *int
		low, high int
	}{
		{"Interval", func(p *api.Params) *int { return &p.Interval }, 1, 1 << 20},
		{"Span", func(p *api.Params) *int { return &p.Span }, 4, 1 << 40},
		{"Future", func(p *api.Params) *int { return &p.Future }, 0, 1 << 32},
		{"Index", func(p *api.Params) *int { return &p.Index }, 0, 1 << 20},
		{"Orphans", func(p *api.Params) *int { return &p.Orphans }, 0, 1 << 20},
	} {
		for _, n := range []int{x.low, x.low + 1, x.high - 1, x.high} {
			if !retarget.Sane(set(x.at, n)) {
				t.Error(x.name, n)
			}
		}
		for _, n := range []int{x.low - 1, -1, math.MinInt, x.high + 1, math.MaxInt} {
			if retarget.Sane(set(x.at, n)) {
				t.Error(x.name, n)
			}
		}
	}
	for _, bits := range []uint32{0, 0x1d80ffff, 0xff7fffff, 0x02000001} {
		if retarget.Sane(with(func(p *api.Params) { p.Limit = bits })) {
			t.Errorf("Limit %08x", bits)
		}
	}
	for _, bits := range []uint32{0x01010000, 0x207fffff, 0x2200ffff >> 8 << 8} {
		_, e := target.Expand(bits)
		if retarget.Sane(with(func(p *api.Params) { p.Limit = bits })) != (e == api.OK) {
			t.Errorf("Limit %08x", bits)
		}
	}
	for n, want := range map[int]bool{0: true, 1: true, 100: true, 101: false, 1000: false} {
		if retarget.Sane(with(func(p *api.Params) { p.Checks = make([]api.Check, n) })) != want {
			t.Error("Checks", n)
		}
	}
	if retarget.Sane(api.Params{}) {
		t.Error("nothing")
	}
}

// P13.2
func TestClamp(t *testing.T) {
	for _, x := range [][3]int{
		{100, 100, 100}, {25, 100, 25}, {24, 100, 25}, {26, 100, 26}, {400, 100, 400}, {401, 100, 400}, {399, 100, 399}, {0, 100, 25}, {-5, 100, 25}, {math.MinInt, 100, 25}, {math.MaxInt, 100, 400},
		{0, 103, 25}, {1000, 103, 412}, {0, 7, 1}, {0, 4, 1}, {100, 4, 16}, {0, 3, 1}, {100, 3, 16}, {100, 0, 16}, {0, -7, 1}, {100, math.MinInt, 16},
		{0, 1 << 40, 1 << 38}, {1 << 50, 1 << 40, 1 << 42}, {0, 1<<40 + 1, 1 << 38}, {1 << 50, math.MaxInt, 1 << 42}, {0, math.MaxInt, 1 << 38},
	} {
		if got := retarget.Clamp(x[0], x[1]); got != x[2] {
			t.Error("Clamp", x, got)
		}
	}
}

// P13.2
func TestFirst(t *testing.T) {
	for _, x := range [][3]int{
		{2016, 2016, 0}, {4032, 2016, 2016}, {4033, 2016, 2017}, {5, 10, 0}, {0, 1, 0}, {1, 1, 0}, {2, 1, 1}, {10, 0, 9}, {10, -4, 9}, {10, math.MinInt, 9},
		{-1, 5, 0}, {math.MinInt, 5, 0}, {math.MinInt, math.MaxInt, 0}, {1 << 21, 1 << 20, 1 << 20}, {1 << 21, 1<<20 + 1, 1 << 20}, {1 << 21, math.MaxInt, 1 << 20}, {math.MaxInt, 1, math.MaxInt - 1},
	} {
		if got := retarget.First(x[0], x[1]); got != x[2] {
			t.Error("First", x, got)
		}
	}
}

// next is the bits as the chapter tells them, of sane rules.
func next(p api.Params, height int, prev api.Header, first uint32) uint32 {
	if height <= 0 || height%p.Interval != 0 {
		return prev.Bits
	}
	d := int(prev.Time) - int(first)
	return target.Scale(prev.Bits, uint64(retarget.Clamp(d, p.Span)), uint64(p.Span), p.Limit)
}

// P13.3
func TestNext(t *testing.T) {
	p := params()
	for _, height := range []int{0, 1, 2015, 2016, 2017, 4032, 6048, -1, -2016, math.MinInt, 1 << 40} {
		for _, bits := range []uint32{0x1d00ffff, 0x1b0404cb, 0x1c7fffff, 0x207fffff, 0} {
			for _, first := range []uint32{0, 1000000, 2000000, 3000000, math.MaxUint32} {
				prev := api.Header{Bits: bits, Time: 2209600}
				if got, want := retarget.Next(p, height, prev, first), next(p, height, prev, first); got != want {
					t.Fatalf("Next(%d, %08x, %d): %08x, want %08x", height, bits, first, got, want)
				}
			}
		}
	}
	prev := api.Header{Bits: 0x1b0404cb, Time: 2209600}
	for _, height := range []int{2016, 2017, 0} {
		bad := p
		bad.Interval = 0
		if retarget.Next(bad, height, prev, 5) != p.Limit {
			t.Error("rules that are not sane", height)
		}
		bad = p
		bad.Limit = 7
		if retarget.Next(bad, height, prev, 5) != 7 {
			t.Error("a limit that is no target", height)
		}
	}
	// The known change of the header 32256 of a known chain.
	if got := retarget.Next(p, 32256, api.Header{Time: 1262152739, Bits: 0x1d00ffff}, 1261130161); got != 0x1d00d86a {
		t.Errorf("%08x", got)
	}
}

// P13.4
func TestChain(t *testing.T) {
	r := rand.New(rand.NewSource(1))
	for _, interval := range []int{1, 2, 3, 10} {
		p := params()
		p.Interval, p.Span = interval, 100*interval
		l := make([]api.Header, 40)
		for i := range l {
			l[i] = api.Header{Bits: 0x1c000000 + uint32(r.Intn(0x7fffff)), Time: uint32(i*100 + r.Intn(1000))}
		}
		if retarget.Chain(p, nil) != p.Limit {
			t.Error("Chain of none")
		}
		for n := 1; n <= len(l); n++ {
			want := next(p, n, l[n-1], l[max(n-interval, 0)].Time)
			if got := retarget.Chain(p, l[:n]); got != want {
				t.Errorf("Chain(%d, %d): %08x, want %08x", interval, n, got, want)
			}
		}
	}
	for _, interval := range []int{0, -1, math.MinInt, math.MaxInt} {
		p := params()
		p.Interval = interval
		if retarget.Chain(p, make([]api.Header, 5)) != p.Limit || retarget.Chain(p, nil) != p.Limit {
			t.Error("rules that are not sane", interval)
		}
	}
}

// P13.5
func TestBounds(t *testing.T) {
	r := rand.New(rand.NewSource(2))
	p := params()
	limit, _ := target.Expand(p.Limit)
	for k := 0; k < 2000; k++ {
		prev := api.Header{Bits: 0x1b008000 + uint32(r.Intn(0x7f0000)), Time: r.Uint32()}
		old, _ := target.Expand(prev.Bits)
		now, e := target.Expand(retarget.Next(p, 2016, prev, r.Uint32()))
		most, _ := u256.Mul(old, 4)
		// Bits have 16 digits of two at least: what is rounded off is less than one part in 2^15.
		least, _, _ := u256.Div(old, u256.Of(4))
		off := u256.Shr(least, 15)
		least, _ = u256.Sub(least, off)
		if e != api.OK || u256.Cmp(now, limit) > 0 || u256.Cmp(now, most) > 0 || u256.Cmp(now, least) < 0 {
			t.Fatalf("%08x becomes %s", prev.Bits, u256.Hex(now))
		}
	}
}

// Example 1.
func TestExample(t *testing.T) {
	p := params()
	got := retarget.Next(p, 2016, api.Header{Bits: 0x1c00fffe, Time: 604800}, 0)
	old, _ := target.Expand(0x1c00fffe)
	now, _ := target.Expand(got)
	if now != u256.Shr(old, 1) {
		t.Errorf("%08x", got)
	}
}
