package script_test

import (
	"bytes"
	"math"
	"math/rand"
	"slices"
	"testing"

	"florin/script"
)

func same(a, b []script.Step) bool {
	return slices.EqualFunc(a, b, func(x, y script.Step) bool {
		return x.Kind == y.Kind && x.Peer == y.Peer && x.N == y.N && bytes.Equal(x.Data, y.Data)
	})
}

// edges are steps that just fit.
func edges() []script.Step {
	l := []script.Step{{}, {Kind: 9, Peer: 255, N: 65535, Data: make([]byte, 65535)}, {Kind: 1, N: 256, Data: []byte{1, 2}}, {Kind: 2, N: 0x0102}, {Kind: 3, Peer: 1, Data: make([]byte, 256)}}
	for kind := 0; kind < 10; kind++ {
		l = append(l, script.Step{Kind: kind, Peer: kind, N: 1000 * kind, Data: bytes.Repeat([]byte{byte(kind)}, kind)})
	}
	return l
}

// misfits are steps that just do not.
func misfits() []script.Step {
	return []script.Step{{Kind: -1}, {Kind: 10}, {Kind: math.MaxInt}, {Kind: math.MinInt}, {Peer: -1}, {Peer: 256}, {Peer: math.MinInt}, {Peer: math.MaxInt}, {N: -1}, {N: 65536}, {N: math.MinInt}, {N: math.MaxInt}, {Data: make([]byte, 65536)}}
}

// put are the bytes that the chapter tells of one step.
func put(s script.Step) []byte {
	head := []byte{byte(s.Kind), byte(s.Peer), byte(s.N % 256), byte(s.N / 256), byte(len(s.Data) % 256), byte(len(s.Data) / 256)}
	return append(head, s.Data...)
}

// P23.1, P23.4
func TestPut(t *testing.T) {
	var all []byte
	var mixed []script.Step
	bad := misfits()
	for k, s := range edges() {
		if !script.Fits(s) {
			t.Error("Fits", k)
		}
		if !bytes.Equal(script.Put([]script.Step{s}), put(s)) {
			t.Error("Put", k)
		}
		all = append(all, put(s)...)
		mixed = append(mixed, bad[k%len(bad)], s)
	}
	for k, s := range bad {
		if script.Fits(s) {
			t.Error("Fits", k)
		}
		if len(script.Put([]script.Step{s})) != 0 {
			t.Error("Put", k)
		}
	}
	if !bytes.Equal(script.Put(mixed), all) || len(script.Put(nil)) != 0 {
		t.Error("Put of those that fit among others")
	}
	if got := script.Get(all); !same(got, edges()) {
		t.Error("Get", len(got))
	}
}

// P23.2
func TestGet(t *testing.T) {
	for k, x := range []struct {
		b    []byte
		want []script.Step
	}{
		{nil, nil}, {[]byte{}, nil}, {[]byte{0}, []script.Step{{}}}, {[]byte{7}, []script.Step{{Kind: 7}}}, {[]byte{10}, []script.Step{{Kind: 0}}}, {[]byte{255}, []script.Step{{Kind: 5}}}, {[]byte{19, 3}, []script.Step{{Kind: 9, Peer: 3}}},
		{[]byte{1, 255, 4}, []script.Step{{Kind: 1, Peer: 255, N: 4}}}, {[]byte{1, 2, 4, 1}, []script.Step{{Kind: 1, Peer: 2, N: 260}}}, {[]byte{1, 2, 4, 1, 3}, []script.Step{{Kind: 1, Peer: 2, N: 260}}}, {[]byte{1, 2, 4, 1, 3, 0}, []script.Step{{Kind: 1, Peer: 2, N: 260}}},
		{[]byte{1, 2, 4, 1, 3, 0, 8, 9}, []script.Step{{Kind: 1, Peer: 2, N: 260, Data: []byte{8, 9}}}}, {[]byte{1, 2, 4, 1, 3, 0, 8, 9, 10}, []script.Step{{Kind: 1, Peer: 2, N: 260, Data: []byte{8, 9, 10}}}},
		{[]byte{1, 2, 4, 1, 3, 0, 8, 9, 10, 11}, []script.Step{{Kind: 1, Peer: 2, N: 260, Data: []byte{8, 9, 10}}, {Kind: 1}}}, {[]byte{1, 0, 0, 0, 255, 255, 5}, []script.Step{{Kind: 1, Data: []byte{5}}}},
		{append([]byte{1, 0, 0, 0, 0, 1}, make([]byte, 257)...), []script.Step{{Kind: 1, Data: make([]byte, 256)}, {}}},
	} {
		if got := script.Get(x.b); !same(got, x.want) {
			t.Error("Get", k, got)
		}
	}
}

// P23.2: 400 steps at most.
func TestGetMost(t *testing.T) {
	step := script.Step{Kind: 2, N: 5}
	for _, n := range []int{399, 400, 401, 1000} {
		l := slices.Repeat([]script.Step{step}, n)
		if got := script.Get(script.Put(l)); !same(got, l[:min(n, 400)]) {
			t.Error("Get", n, len(got))
		}
	}
}

// P23.4: every text is a script, and told anew it is the same.
func TestEveryText(t *testing.T) {
	r := rand.New(rand.NewSource(1))
	for k := 0; k < 2000; k++ {
		b := make([]byte, r.Intn(100))
		r.Read(b)
		for i := range b {
			if r.Intn(2) == 0 {
				b[i] %= 4
			}
		}
		l := script.Get(b)
		for _, s := range l {
			if !script.Fits(s) {
				t.Fatal("a step that does not fit", s)
			}
		}
		if !same(script.Get(script.Put(l)), l) || (len(l) == 0) != (len(b) == 0) {
			t.Fatal("told anew it is another one", b)
		}
	}
}

// P23.3
func TestNames(t *testing.T) {
	kinds := []int{script.Connect, script.Bytes, script.Tick, script.Watch, script.Ask, script.Tip, script.Tx, script.Sync, script.Crash, script.Compact}
	for i, name := range []string{"connect", "bytes", "tick", "watch", "ask", "tip", "tx", "sync", "crash", "compact"} {
		if kinds[i] != i || script.Name(i) != name {
			t.Error("Name", i, kinds[i], script.Name(i))
		}
	}
	for _, i := range []int{-1, 10, 11, script.Kinds, math.MinInt, math.MaxInt} {
		if script.Name(i) != "" {
			t.Error("Name", i)
		}
	}
	if script.Kinds != 10 {
		t.Error("Kinds")
	}
}

// Example 1.
func TestExample(t *testing.T) {
	if l := script.Get([]byte{7}); len(l) != 1 || script.Name(l[0].Kind) != "sync" {
		t.Error(l)
	}
}
