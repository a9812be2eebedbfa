package sha2_test

import (
	"bytes"
	"crypto/sha256"
	"encoding/binary"
	"encoding/hex"
	"math"
	"math/big"
	"math/rand"
	"slices"
	"testing"

	"florin/api"
	"florin/sha2"
)

// root is the n-th root of a, rounded down, found digit by digit.
func root(a *big.Int, n int64) *big.Int {
	low := new(big.Int)
	for i := a.BitLen()/int(n) + 1; i >= 0; i-- {
		next := new(big.Int).SetBit(low, i, 1)
		if new(big.Int).Exp(next, big.NewInt(n), nil).Cmp(a) <= 0 {
			low = next
		}
	}
	return low
}

// fraction is the first 32 digits of two behind the point of p's n-th root.
func fraction(p, n int64) uint32 {
	a := new(big.Int).Lsh(big.NewInt(p), uint(32*n))
	return uint32(root(a, n).Uint64())
}

// P2.1
func TestConstants(t *testing.T) {
	p := int64(1)
	for i := 0; i < 64; i++ {
		for p++; !big.NewInt(p).ProbablyPrime(10); p++ {
		}
		if sha2.Constant(i) != fraction(p, 3) {
			t.Errorf("Constant(%d): %08x", i, sha2.Constant(i))
		}
		if i < 8 && sha2.Initial(i) != fraction(p, 2) {
			t.Errorf("Initial(%d): %08x", i, sha2.Initial(i))
		}
	}
	for _, i := range []int{-1, 64, 65, math.MinInt, math.MaxInt} {
		if sha2.Constant(i) != 0 {
			t.Error("Constant", i)
		}
	}
	for _, i := range []int{-1, 8, 9, 63, math.MinInt, math.MaxInt} {
		if sha2.Initial(i) != 0 {
			t.Error("Initial", i)
		}
	}
}

// libraryBlock is what the library makes of words and a block: it is handed a state by its own form of it.
func libraryBlock(t *testing.T, h [8]uint32, b []byte) [8]uint32 {
	t.Helper()
	d := sha256.New()
	text, err := d.(interface{ MarshalBinary() ([]byte, error) }).MarshalBinary()
	if err != nil {
		t.Fatal(err)
	}
	for i, x := range h {
		binary.BigEndian.PutUint32(text[4+4*i:], x)
	}
	if err := d.(interface{ UnmarshalBinary([]byte) error }).UnmarshalBinary(text); err != nil {
		t.Fatal(err)
	}
	d.Write(b)
	text, _ = d.(interface{ MarshalBinary() ([]byte, error) }).MarshalBinary()
	for i := range h {
		h[i] = binary.BigEndian.Uint32(text[4+4*i:])
	}
	return h
}

// P2.2
func TestBlock(t *testing.T) {
	r := rand.New(rand.NewSource(1))
	for k := 0; k < 200; k++ {
		var h [8]uint32
		for i := range h {
			h[i] = r.Uint32()
		}
		b := make([]byte, 64)
		r.Read(b)
		if k == 0 {
			clear(b)
			h = [8]uint32{}
		}
		if got, want := sha2.Block(h, b), libraryBlock(t, h, b); got != want {
			t.Fatalf("Block(%x, %x): %x, want %x", h, b, got, want)
		}
		for _, n := range []int{0, 1, 63, 65, 128} {
			if sha2.Block(h, make([]byte, n)) != h {
				t.Fatal("a block of", n)
			}
		}
	}
}

// P2.3
func TestPad(t *testing.T) {
	ns := []uint64{1 << 32, 1<<32 + 55, 1 << 61, 1<<61 + 1, ^uint64(0), ^uint64(0) - 8, 1 << 63}
	for n := uint64(0); n < 200; n++ {
		ns = append(ns, n)
	}
	for _, n := range ns {
		pad := sha2.Pad(n)
		if len(pad) < 9 || len(pad) > 72 || (n+uint64(len(pad)))%64 != 0 {
			t.Fatal("Pad", n, len(pad))
		}
		want := make([]byte, len(pad))
		want[0] = 128
		binary.BigEndian.PutUint64(want[len(want)-8:], n*8)
		if !bytes.Equal(pad, want) {
			t.Fatalf("Pad(%d): %x", n, pad)
		}
	}
	if len(sha2.Pad(55)) != 9 || len(sha2.Pad(56)) != 72 || len(sha2.Pad(0)) != 64 {
		t.Error("lengths")
	}
}

func same(a, b sha2.State) bool {
	return a.H == b.H && a.N == b.N && bytes.Equal(a.Rest, b.Rest)
}

// P2.4
func TestState(t *testing.T) {
	s := sha2.Start()
	for i, x := range s.H {
		if x != sha2.Initial(i) {
			t.Error("Start", i)
		}
	}
	if len(s.Rest) != 0 || s.N != 0 || !sha2.Sane(s) {
		t.Error("Start", s)
	}
	h := [8]uint32{1, 2, 3, 4, 5, 6, 7, 8}
	for _, x := range []struct {
		rest int
		n    uint64
		want bool
	}{{0, 0, true}, {0, 64, true}, {0, 1, false}, {1, 1, true}, {1, 65, true}, {1, 0, false}, {63, 63, true}, {63, ^uint64(0), true}, {64, 64, false}, {64, 0, false}, {65, 1, false}, {62, 63, false}} {
		s := sha2.State{H: h, Rest: make([]byte, x.rest), N: x.n}
		if sha2.Sane(s) != x.want {
			t.Error("Sane", x)
		}
		if !x.want {
			if !same(sha2.Write(s, []byte("abc")), sha2.Write(sha2.Start(), []byte("abc"))) {
				t.Error("Write of one that is not sane", x)
			}
			if sha2.End(s) != sha256.Sum256(nil) {
				t.Error("End of one that is not sane", x)
			}
		}
	}
}

// P2.4
func TestWrite(t *testing.T) {
	r := rand.New(rand.NewSource(3))
	for k := 0; k < 300; k++ {
		text := make([]byte, r.Intn(300))
		r.Read(text)
		n := len(text) / 64 * 64
		rest := text[n:]
		more := make([]byte, r.Intn(200))
		r.Read(more)
		var h [8]uint32
		for i := range h {
			h[i] = r.Uint32()
		}
		s := sha2.State{H: h, Rest: rest, N: uint64(len(text))}
		if k%3 == 0 {
			s.N -= 64 * uint64(1+r.Intn(4)) // so that the sum wraps
		}
		all := slices.Concat(rest, more)
		want := sha2.State{H: h, N: s.N + uint64(len(more))}
		for len(all) >= 64 {
			want.H = sha2.Block(want.H, all[:64])
			all = all[64:]
		}
		want.Rest = all
		before := sha2.State{H: s.H, Rest: bytes.Clone(s.Rest), N: s.N}
		got := sha2.Write(s, more)
		if !same(got, want) {
			t.Fatal("Write", s, more, got, want)
		}
		again := sha2.Write(s, []byte("else"))
		if !same(s, before) || !same(got, want) || !sha2.Sane(again) {
			t.Fatal("Write changes what it was handed, or told", s, before)
		}
		end := sha2.Write(s, sha2.Pad(s.N))
		var sum api.Hash
		for i, x := range end.H {
			binary.BigEndian.PutUint32(sum[4*i:], x)
		}
		if sha2.End(s) != sum {
			t.Fatal("End", s)
		}
	}
}

// A state's rest is a copy: pieces with room behind them do not run into each other.
func TestWriteTwice(t *testing.T) {
	room := make([]byte, 3, 100)
	copy(room, "abc")
	s := sha2.Write(sha2.Start(), room)
	a := sha2.Write(s, []byte("d"))
	b := sha2.Write(s, []byte("e"))
	if string(a.Rest) != "abcd" || string(b.Rest) != "abce" || string(s.Rest) != "abc" {
		t.Errorf("%s %s %s", a.Rest, b.Rest, s.Rest)
	}
}

// P2.5
func TestSum(t *testing.T) {
	r := rand.New(rand.NewSource(4))
	for n := 0; n < 400; n++ {
		b := make([]byte, n)
		r.Read(b)
		want := sha256.Sum256(b)
		if sha2.Sum(b) != want {
			t.Fatal("Sum of", n)
		}
		if sha2.Double(b) != sha256.Sum256(want[:]) {
			t.Fatal("Double of", n)
		}
	}
	if sha2.Sum(nil) != sha256.Sum256(nil) {
		t.Error("Sum of nothing")
	}
	if b := make([]byte, 1000003); sha2.Sum(b) != sha256.Sum256(b) {
		t.Error("Sum of many")
	}
}

// P2.6
func TestCuts(t *testing.T) {
	r := rand.New(rand.NewSource(5))
	for k := 0; k < 200; k++ {
		b := make([]byte, r.Intn(500))
		r.Read(b)
		s := sha2.Start()
		for rest := b; len(rest) > 0; {
			n := min(len(rest), r.Intn(130))
			s = sha2.Write(s, rest[:n])
			rest = rest[n:]
		}
		if sha2.End(s) != sha256.Sum256(b) {
			t.Fatal("cut", len(b))
		}
	}
}

// Example 1.
func TestExample(t *testing.T) {
	sum := sha2.Sum([]byte("abc"))
	if hex.EncodeToString(sum[:]) != "ba7816bf8f01cfea414140de5dae2223b00361a396177a9cb410ff61f20015ad" {
		t.Errorf("%x", sum)
	}
}
