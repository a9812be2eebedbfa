package proof

import (
	"bytes"
	"testing"

	"florin/api"
)

// P12.4: with a weak sum the texts are found that no one knows of the true one.
func TestWitnesses(t *testing.T) {
	// The sum of a text is its first byte, halved: 2 and 3 have one sum, and 4 and 6 unlike ones with one sum of their own.
	weak := func(b []byte) api.Hash { return api.Hash{b[0] / 2} }
	l := func(x ...byte) [][]byte {
		var texts [][]byte
		for _, y := range x {
			texts = append(texts, []byte{y, y})
		}
		return texts
	}
	sum := func(x byte) []byte { h := api.Hash{x}; return h[:] }
	for k, x := range []struct {
		a, b         [][]byte
		wantA, wantB []byte
	}{
		{l(2), l(3), []byte{2, 2}, []byte{3, 3}},
		{l(4), l(6), sum(2), sum(3)},
		{l(80, 90, 2, 4), l(20, 60, 3, 4), []byte{2, 2}, []byte{3, 3}},
		{l(80, 90, 4, 2), l(20, 60, 6, 3), sum(2), sum(3)},
		{l(80, 20), l(20, 80), nil, nil},
		{nil, nil, nil, nil},
		{l(80, 2), l(20), nil, nil},
	} {
		a, b, ok := witnesses(x.a, x.b, weak)
		if !bytes.Equal(a, x.wantA) || !bytes.Equal(b, x.wantB) || ok != (x.wantA != nil) {
			t.Error(k, a, b, ok)
		}
	}
}

// P12.4: which claims clash.
func TestUnlike(t *testing.T) {
	a := claim{root: api.Hash{1}, total: 5, pos: 2, h: api.Hash{2}}
	for k, x := range []struct {
		b    claim
		want bool
	}{
		{a, false},
		{claim{root: api.Hash{1}, total: 5, pos: 2, h: api.Hash{3}}, true},
		{claim{root: api.Hash{1}, total: 6, pos: 2, h: api.Hash{3}}, false},
		{claim{root: api.Hash{9}, total: 5, pos: 2, h: api.Hash{3}}, false},
		{claim{root: api.Hash{1}, total: 5, pos: 3, h: api.Hash{3}}, false},
		{claim{}, false},
	} {
		if unlike(a, x.b) != x.want || unlike(x.b, a) != x.want {
			t.Error(k)
		}
	}
}
