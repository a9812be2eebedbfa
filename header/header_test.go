package header_test

import (
	"bytes"
	"crypto/sha256"
	"encoding/binary"
	"math"
	"math/rand"
	"slices"
	"testing"

	"florin/api"
	"florin/header"
	"florin/target"
)

const easy = 0x207fffff

func some(r *rand.Rand) api.Header {
	h := api.Header{Version: r.Uint32(), Time: r.Uint32(), Bits: r.Uint32(), Nonce: r.Uint32()}
	r.Read(h.Prev[:])
	r.Read(h.Root[:])
	return h
}

// text is a header's bytes, as the chapter tells them.
func text(h api.Header) []byte {
	b := binary.LittleEndian.AppendUint32(nil, h.Version)
	b = append(b, h.Prev[:]...)
	b = append(b, h.Root[:]...)
	b = binary.LittleEndian.AppendUint32(b, h.Time)
	b = binary.LittleEndian.AppendUint32(b, h.Bits)
	return binary.LittleEndian.AppendUint32(b, h.Nonce)
}

func id(h api.Header) api.Hash {
	once := sha256.Sum256(text(h))
	return sha256.Sum256(once[:])
}

// P7.1, P7.5
func TestOne(t *testing.T) {
	r := rand.New(rand.NewSource(1))
	for k := 0; k < 100; k++ {
		h := some(r)
		b := header.Put(h)
		if !bytes.Equal(b, text(h)) || len(b) != 80 {
			t.Fatal("Put", h, b)
		}
		if g, e := header.Get(b); g != h || e != api.OK {
			t.Fatal("Get", g, e)
		}
		if header.Id(h) != id(h) {
			t.Fatal("Id", h)
		}
	}
	for _, n := range []int{0, 1, 79, 81, 82, 160} {
		want := api.ErrShort
		if n > 80 {
			want = api.ErrBig
		}
		if g, e := header.Get(bytes.Repeat([]byte{1}, n)); g != (api.Header{}) || e != want {
			t.Error("Get of", n, g, e)
		}
	}
}

// P7.1: the first header of a known chain.
func TestKnown(t *testing.T) {
	root := api.Hash{0x3b, 0xa3, 0xed, 0xfd, 0x7a, 0x7b, 0x12, 0xb2, 0x7a, 0xc7, 0x2c, 0x3e, 0x67, 0x76, 0x8f, 0x61, 0x7f, 0xc8, 0x1b, 0xc3, 0x88, 0x8a, 0x51, 0x32, 0x3a, 0x9f, 0xb8, 0xaa, 0x4b, 0x1e, 0x5e, 0x4a}
	h := api.Header{Version: 1, Root: root, Time: 1231006505, Bits: 0x1d00ffff, Nonce: 2083236893}
	if target.Meets(header.Id(h), h.Bits, 0x1d00ffff) != api.OK {
		t.Errorf("%x", header.Id(h))
	}
	early := h
	early.Nonce -= 10
	if g, ok := header.Mine(early, 0x1d00ffff, 11); g != h || !ok {
		t.Error("Mine", g, ok)
	}
	if g, ok := header.Mine(early, 0x1d00ffff, 10); g != early || ok {
		t.Error("Mine of too few tries", g, ok)
	}
}

// mine seeks as the chapter tells it.
func mine(h api.Header, limit uint32, tries int) (api.Header, bool) {
	for i := 0; i < min(max(tries, 0), 4096); i++ {
		g := h
		g.Nonce += uint32(i)
		if target.Meets(id(g), g.Bits, limit) == api.OK {
			return g, true
		}
	}
	return h, false
}

// P7.2
func TestMine(t *testing.T) {
	r := rand.New(rand.NewSource(2))
	for k := 0; k < 60; k++ {
		h := some(r)
		h.Bits = []uint32{easy, 0x2007ffff, 0x1f7fffff, 0x2000ffff}[k%4]
		if k%5 == 0 {
			h.Nonce = math.MaxUint32 // the next one is 0
		}
		for _, tries := range []int{1, 2, 7, 4096, 0, -1, math.MinInt} {
			got, ok := header.Mine(h, easy, tries)
			want, wok := mine(h, easy, tries)
			if got != want || ok != wok {
				t.Fatal("Mine", k, tries, got, ok)
			}
		}
	}
	h := some(r)
	for _, x := range [][2]uint32{{0, easy}, {easy, 0}, {easy, 0x1d00ffff}, {0x03000001, easy}} {
		h.Bits = x[0]
		if g, ok := header.Mine(h, x[1], math.MaxInt); g != h || ok {
			t.Error("Mine", x, g, ok)
		}
	}
}

// No more than 4096 are tried: a header whose first good nonce is the 4097th is not found, and one whose 4096th is is found.
func TestMineBound(t *testing.T) {
	h := api.Header{Bits: 0x1f0fffff}
	good, ok := api.Header{}, false
	for !ok {
		h.Version++
		good, ok = mine(api.Header{Version: h.Version, Bits: h.Bits}, easy, 4096)
	}
	// From here back to the good one before it there must be enough room: those that have not are passed over.
	for {
		start := good
		start.Nonce++
		next, ok := mine(start, easy, 4096)
		if ok {
			good = next
			continue
		}
		last := good.Nonce
		for n := start.Nonce + 4096; ; n++ {
			start.Nonce = n
			if target.Meets(id(start), start.Bits, easy) == api.OK {
				break
			}
		}
		if start.Nonce-last < 4097 {
			t.Fatal("no gap")
		}
		want := start
		start.Nonce = want.Nonce - 4096
		if g, ok := header.Mine(start, easy, math.MaxInt); ok || g != start {
			t.Error("the 4097th is found")
		}
		start.Nonce++
		if g, ok := header.Mine(start, easy, math.MaxInt); !ok || g != want {
			t.Error("the 4096th is not found")
		}
		return
	}
}

func chain(n int) []api.Header {
	var l []api.Header
	var prev api.Hash
	for i := 0; i < n; i++ {
		h := api.Header{Version: uint32(i), Prev: prev}
		prev = id(h)
		l = append(l, h)
	}
	return l
}

// P7.3
func TestLinked(t *testing.T) {
	l := chain(6)
	for n := 0; n <= 6; n++ {
		if header.Linked(l[:n]) != n {
			t.Error("Linked", n)
		}
	}
	if header.Linked(l[2:]) != 4 || header.Linked(nil) != 0 {
		t.Error("a piece")
	}
	for n := 1; n < 6; n++ {
		broken := slices.Clone(l)
		broken[n].Prev[31]++
		if header.Linked(broken) != n {
			t.Error("broken at", n, header.Linked(broken))
		}
	}
	if header.Linked([]api.Header{l[0], l[0], l[1]}) != 1 {
		t.Error("one twice")
	}
}

func texts(l []api.Header) []byte {
	b := []byte{byte(len(l))}
	if len(l) >= 253 {
		b = binary.LittleEndian.AppendUint16([]byte{253}, uint16(len(l)))
	}
	for _, h := range l {
		b = append(append(b, text(h)...), 0)
	}
	return b
}

// P7.4, P7.5
func TestAll(t *testing.T) {
	l := chain(2001)
	for _, n := range []int{0, 1, 2, 3, 252, 253, 254, 1999, 2000} {
		b, e := header.PutAll(l[:n])
		if e != api.OK || !bytes.Equal(b, texts(l[:n])) {
			t.Fatal("PutAll", n, e)
		}
		if g, e := header.GetAll(b); e != api.OK || !slices.Equal(g, l[:n]) {
			t.Fatal("GetAll", n, e)
		}
		if g, e := header.GetAll(append(b, 0)); e != api.ErrForm || len(g) != 0 {
			t.Fatal("GetAll of more", n, e)
		}
	}
	if b, e := header.PutAll(l); e != api.ErrBig || len(b) != 0 {
		t.Error("PutAll of too many", e)
	}
	if g, e := header.GetAll(texts(l)); e != api.ErrBig || len(g) != 0 {
		t.Error("GetAll of too many", e)
	}
	three := texts(l[:3])
	for n := range three {
		if g, e := header.GetAll(three[:n]); e != api.ErrShort || len(g) != 0 {
			t.Fatal("GetAll of a piece", n, e)
		}
	}
	with := func(at int, x byte) []byte {
		b := bytes.Clone(three)
		b[at] = x
		return b
	}
	for k, x := range []struct {
		b []byte
		e api.Errno
	}{
		{with(81, 1), api.ErrForm}, {with(162, 255), api.ErrForm}, {with(243, 1), api.ErrForm},
		{with(81, 1)[:100], api.ErrForm}, {with(162, 1)[:100], api.ErrShort}, {with(0, 2), api.ErrForm}, {with(0, 4), api.ErrShort},
		{with(0, 253), api.ErrForm}, {[]byte{253, 208, 7}, api.ErrShort}, {[]byte{253, 209, 7}, api.ErrBig}, {[]byte{253, 3, 0}, api.ErrForm}, {[]byte{253, 3}, api.ErrShort},
		{[]byte{255, 255, 255, 255, 255, 255, 255, 255, 255}, api.ErrBig}, {append(with(81, 1), 5), api.ErrForm},
	} {
		if g, e := header.GetAll(x.b); e != x.e || len(g) != 0 {
			t.Error("GetAll", k, e)
		}
	}
}

// Example 1.
func TestExample(t *testing.T) {
	if b, e := header.PutAll(nil); !bytes.Equal(b, []byte{0}) || e != api.OK {
		t.Error(b, e)
	}
}
