package rules_test

import (
	"math"
	"slices"
	"testing"

	"florin/api"
	"florin/header"
	"florin/retarget"
	"florin/rules"
	"florin/target"
)

const easy = 0x207fffff

func params() api.Params {
	return api.Params{Limit: easy, Interval: 4, Span: 400, Future: 50, Index: 1000, Orphans: 10}
}

func mined(t *testing.T, h api.Header) api.Header {
	t.Helper()
	for {
		if g, ok := header.Mine(h, easy, 4096); ok {
			return g
		}
		h.Version++
	}
}

// unmined is a header with those parts whose hash is above its target.
func unmined(h api.Header) api.Header {
	for target.Meets(header.Id(h), h.Bits, easy) != api.ErrWork {
		h.Nonce++
	}
	return h
}

func genesis() api.Header { return api.Header{Bits: easy, Time: 1000} }

// chain is n headers, each of which came 100 behind the one ahead: at every fourth its target changes.
func chain(t *testing.T, p api.Params, n int) []api.Header {
	t.Helper()
	l := []api.Header{genesis()}
	for len(l) < n {
		last := l[len(l)-1]
		step := uint32(60)
		if len(l) > 6 {
			step = 130
		}
		l = append(l, mined(t, api.Header{Prev: header.Id(last), Time: last.Time + step, Bits: retarget.Chain(p, l)}))
	}
	return l
}

// P16.1
func TestPoint(t *testing.T) {
	p := params()
	p.Checks = []api.Check{{Height: 5, H: api.Hash{1}}, {Height: 0, H: api.Hash{2}}, {Height: 5, H: api.Hash{3}}, {Height: -4, H: api.Hash{4}}}
	for height, want := range map[int]api.Hash{5: {1}, 0: {2}, -4: {4}} {
		if h, ok := rules.Point(p, height); h != want || !ok {
			t.Error("Point", height, h, ok)
		}
	}
	for _, height := range []int{1, -5, 4, 6, math.MinInt, math.MaxInt} {
		if h, ok := rules.Point(p, height); h != (api.Hash{}) || ok {
			t.Error("Point", height, h, ok)
		}
	}
	if h, ok := rules.Point(api.Params{}, 0); h != (api.Hash{}) || ok {
		t.Error("Point of no rules", h, ok)
	}
}

// P16.2
func TestCheck(t *testing.T) {
	p := params()
	l := chain(t, p, 12)
	bits := map[uint32]int{}
	for n := 1; n < len(l); n++ {
		bits[l[n].Bits]++
		if e := rules.Check(p, l[:n], l[n], 10000); e != api.OK {
			t.Fatal("Check", n, e)
		}
	}
	if len(bits) < 2 {
		t.Fatal("the target never changes")
	}
	good := l[10]
	l = l[:10]
	last := l[9]
	change := func(f func(h *api.Header)) api.Header {
		h := good
		f(&h)
		return mined(t, h)
	}
	insane, bound := p, p
	insane.Interval = 0
	bound.Checks = []api.Check{{Height: 9, H: api.Hash{}}, {Height: 10, H: api.Hash{1}}, {Height: 10, H: header.Id(good)}}
	fits, other := p, p
	fits.Checks = []api.Check{{Height: 10, H: header.Id(good)}, {Height: 10, H: api.Hash{1}}}
	other.Checks = []api.Check{{Height: 11, H: api.Hash{1}}}
	for k, x := range []struct {
		p    api.Params
		l    []api.Header
		h    api.Header
		now  int
		want api.Errno
	}{
		{p, l, good, int(good.Time), api.OK},
		{p, l, good, int(good.Time) - 50, api.OK},
		{p, l, good, int(good.Time) - 51, api.ErrTime},
		{p, l, good, math.MinInt, api.ErrTime},
		{p, l, good, math.MaxInt, api.OK},
		{insane, l, good, 10000, api.ErrState}, {p, nil, good, 10000, api.ErrState}, {api.Params{}, l, api.Header{}, 0, api.ErrState},
		{p, l[:9], good, 10000, api.ErrOrphan},
		{p, l, api.Header{}, 0, api.ErrOrphan},
		{p, l, change(func(h *api.Header) { h.Prev[31]++ }), 10000, api.ErrOrphan},
		{p, l, change(func(h *api.Header) { h.Bits = easy - 1 }), 10000, api.ErrBits},
		{p, l, unmined(api.Header{Prev: good.Prev, Bits: good.Bits + 1}), 0, api.ErrBits},
		{p, l, unmined(good), 10000, api.ErrWork},
		{p, l, unmined(api.Header{Prev: good.Prev, Bits: good.Bits, Time: 1}), 10000, api.ErrWork},
		{p, l, change(func(h *api.Header) { h.Time = l[5].Time }), 10000, api.ErrTime},
		{p, l, change(func(h *api.Header) { h.Time = l[5].Time + 1 }), 10000, api.OK},
		{p, l, change(func(h *api.Header) { h.Time = last.Time + 9 }), int(last.Time) - 42, api.ErrTime},
		{bound, l, change(func(h *api.Header) { h.Time = 1 }), 10000, api.ErrTime},
		{bound, l, good, 10000, api.ErrCheck},
		{fits, l, good, 10000, api.OK},
		{other, l, good, 10000, api.OK},
		{fits, l, change(func(h *api.Header) { h.Time++ }), 10000, api.ErrCheck},
	} {
		if e := rules.Check(x.p, x.l, x.h, x.now); e != x.want {
			t.Errorf("Check %d: %v, want %v", k, e, x.want)
		}
	}
}

// P16.2: bits that are right, but no target, are told by target.Meets.
func TestCheckNoTarget(t *testing.T) {
	p := params()
	first := genesis()
	first.Bits = 0
	h := api.Header{Prev: header.Id(first), Time: 2000, Bits: 0}
	if e := rules.Check(p, []api.Header{first}, h, 10000); e != api.ErrBits {
		t.Error(e)
	}
	first.Bits = 0x2100ffff // above the limit
	h = api.Header{Prev: header.Id(first), Time: 2000, Bits: first.Bits}
	if e := rules.Check(p, []api.Header{first}, h, 10000); e != api.ErrBits {
		t.Error(e)
	}
}

// P16.3
func TestBegins(t *testing.T) {
	p, h := params(), genesis()
	with := func(c ...api.Check) api.Params {
		q := p
		q.Checks = c
		return q
	}
	insane := with(api.Check{Height: 0, H: api.Hash{1}})
	insane.Span = 3
	for k, x := range []struct {
		p    api.Params
		h    api.Header
		want api.Errno
	}{
		{p, h, api.OK}, {p, api.Header{}, api.OK}, {insane, h, api.ErrState}, {api.Params{}, h, api.ErrState},
		{with(api.Check{Height: 0, H: header.Id(h)}), h, api.OK},
		{with(api.Check{Height: 0, H: header.Id(h)}), api.Header{}, api.ErrCheck},
		{with(api.Check{Height: 1, H: api.Hash{}}), h, api.OK},
		{with(api.Check{Height: 0, H: api.Hash{1}}, api.Check{Height: 0, H: header.Id(h)}), h, api.ErrCheck},
	} {
		if e := rules.Begins(x.p, x.h); e != x.want {
			t.Error("Begins", k, e)
		}
	}
}

// P16.3, P16.4
func TestValid(t *testing.T) {
	p := params()
	l := chain(t, p, 12)
	for n := 0; n <= 12; n++ {
		if k, e := rules.Valid(p, l[:n], 10000); k != n || e != api.OK {
			t.Error("Valid", n, k, e)
		}
	}
	for n := 1; n < 12; n++ {
		x := slices.Clone(l)
		x[n] = unmined(x[n])
		if k, e := rules.Valid(p, x, 10000); k != n || e != api.ErrWork {
			t.Error("Valid up to", n, k, e)
		}
		x = slices.Delete(slices.Clone(l), n, n+1)
		want := api.ErrOrphan
		if n == 11 {
			want = api.OK
		}
		if k, e := rules.Valid(p, x, 10000); k != n || e != want {
			t.Error("Valid without", n, k, e)
		}
	}
	insane := p
	insane.Limit = 0
	if k, e := rules.Valid(insane, l, 10000); k != 0 || e != api.ErrState {
		t.Error("Valid of rules that are not sane", k, e)
	}
	if k, e := rules.Valid(insane, nil, 10000); k != 0 || e != api.OK {
		t.Error("Valid of none", k, e)
	}
	pinned := p
	pinned.Checks = []api.Check{{Height: 0, H: api.Hash{1}}}
	if k, e := rules.Valid(pinned, l, 10000); k != 0 || e != api.ErrCheck {
		t.Error("Valid of another first one", k, e)
	}
	pinned.Checks[0].Height = 3
	if k, e := rules.Valid(pinned, l, 10000); k != 3 || e != api.ErrCheck {
		t.Error("Valid of another fourth one", k, e)
	}
	before := 0
	for now := 0; now < 3000; now += 10 {
		k, e := rules.Valid(p, l, now)
		if k < before || e != api.OK && e != api.ErrTime {
			t.Fatal("what may stand may not stand later", now, k, before, e)
		}
		before = k
	}
	if before != 12 {
		t.Error("they never may stand", before)
	}
}

// Example 1.
func TestExample(t *testing.T) {
	p, first := params(), genesis()
	h := mined(t, api.Header{Prev: header.Id(first), Bits: easy, Time: first.Time + 1})
	if e := rules.Check(p, []api.Header{first}, h, 1001); e != api.OK {
		t.Error(e)
	}
}
