package target_test

import (
	"math"
	"math/big"
	"math/rand"
	"testing"

	"florin/api"
	"florin/hash"
	"florin/target"
	"florin/u256"
)

var whole = new(big.Int).Lsh(big.NewInt(1), 256)

func toBig(a u256.U) *big.Int {
	b := u256.Bytes(a)
	return new(big.Int).SetBytes(b[:])
}

func fromBig(n *big.Int) u256.U {
	a, _ := u256.FromBytes(n.Bytes())
	return a
}

// expand is the target as the chapter tells it; nil where there is none.
func expand(bits uint32) *big.Int {
	m := big.NewInt(int64(bits & 0x7fffff))
	e := int64(bits >> 24)
	t := new(big.Int).Mul(m, new(big.Int).Exp(big.NewInt(256), big.NewInt(e), nil))
	t.Rsh(t, 24)
	if t.Sign() == 0 || t.Cmp(whole) >= 0 || bits&0x800000 != 0 {
		return nil
	}
	return t
}

func allBits() []uint32 {
	var l []uint32
	for e := uint32(0); e <= 40; e++ {
		for _, m := range []uint32{0, 1, 0x7f, 0x80, 0xff, 0x100, 0x7fff, 0x8000, 0xffff, 0x10000, 0x123456, 0x7fffff, 0x800000, 0x800001, 0xffffff, 0x80ffff} {
			l = append(l, e<<24|m)
		}
	}
	r := rand.New(rand.NewSource(1))
	for i := 0; i < 300; i++ {
		l = append(l, r.Uint32())
	}
	return append(l, 0xff000001, 0xff7fffff, 0x1d00ffff, 0x207fffff)
}

// P5.1
func TestExpand(t *testing.T) {
	for _, bits := range allBits() {
		got, e := target.Expand(bits)
		want := expand(bits)
		if want == nil {
			if e != api.ErrBits || got != (u256.U{}) {
				t.Fatalf("Expand(%08x): %v, %v", bits, got, e)
			}
		} else if e != api.OK || toBig(got).Cmp(want) != 0 {
			t.Fatalf("Expand(%08x): %v, %v, want %x", bits, got, e, want)
		}
	}
}

// shrink is the bits as the chapter tells them.
func shrink(n *big.Int) uint32 {
	e := uint32(len(n.Bytes()))
	if e == 0 {
		return 0
	}
	m := new(big.Int).Lsh(n, 24)
	m.Rsh(m, uint(8*e))
	v := uint32(m.Uint64())
	if v>>23 == 1 {
		return (e+1)<<24 | v>>8
	}
	return e<<24 | v
}

func targets() []*big.Int {
	var l []*big.Int
	one := big.NewInt(1)
	for i := uint(0); i <= 256; i++ {
		n := new(big.Int).Lsh(one, i)
		l = append(l, new(big.Int).Sub(n, one))
		if i < 256 {
			l = append(l, n, new(big.Int).Add(n, new(big.Int).Rsh(n, 1)))
		}
	}
	r := rand.New(rand.NewSource(2))
	for i := 0; i < 300; i++ {
		b := make([]byte, 1+r.Intn(32))
		r.Read(b)
		l = append(l, new(big.Int).SetBytes(b))
	}
	return l
}

// P5.2, P5.6
func TestShrink(t *testing.T) {
	for _, n := range targets() {
		bits := target.Shrink(fromBig(n))
		if bits != shrink(n) {
			t.Fatalf("Shrink(%x): %08x, want %08x", n, bits, shrink(n))
		}
		if n.Sign() == 0 {
			continue
		}
		again, e := target.Expand(bits)
		if e != api.OK || toBig(again).Cmp(n) > 0 {
			t.Fatalf("%x is shrunk to %08x, expanded to %x, %v", n, bits, toBig(again), e)
		}
	}
	if target.Shrink(u256.U{}) != 0 {
		t.Error("Shrink of 0")
	}
}

// work is how often the target and 1 is in 2^256.
func work(bits uint32) *big.Int {
	n := expand(bits)
	if n == nil {
		return new(big.Int)
	}
	return new(big.Int).Quo(whole, n.Add(n, big.NewInt(1)))
}

// P5.3, P5.6
func TestWork(t *testing.T) {
	for _, bits := range allBits() {
		if toBig(target.Work(bits)).Cmp(work(bits)) != 0 {
			t.Fatalf("Work(%08x): %x", bits, toBig(target.Work(bits)))
		}
	}
	if u256.Cmp(target.Work(0x1c00ffff), target.Work(0x1d00ffff)) <= 0 {
		t.Error("a lower target is less work")
	}
}

// P5.3
func TestTotal(t *testing.T) {
	for _, l := range [][]uint32{
		nil, {}, {0x1d00ffff}, {0x1d00ffff, 0x1d00ffff, 0x207fffff}, {0, 0x1d00ffff, 0x1d80ffff}, {0x01010000}, {0x01010000, 0x01010000},
		{0x01010000, 0x01010000, 0x01010000}, {0x01010000, 0x01010000, 0x1d00ffff, 0x1c00ffff}, {0x01020000, 0x01020000, 0x01020000},
		{0x01020000, 0x01020000, 0x01020000, 0x01010000},
	} {
		want := new(big.Int)
		for _, bits := range l {
			want.Add(want, work(bits))
		}
		got, lost := target.Total(l)
		if toBig(got).Cmp(new(big.Int).Mod(want, whole)) != 0 || lost != (want.Cmp(whole) >= 0) {
			t.Errorf("Total(%08x): %x, %v", l, toBig(got), lost)
		}
	}
}

// P5.4
func TestMeets(t *testing.T) {
	at := func(bits uint32, more int64) api.Hash {
		return hash.FromNumber(fromBig(new(big.Int).Add(expand(bits), big.NewInt(more))))
	}
	const limit = 0x1d00ffff
	for k, x := range []struct {
		h           api.Hash
		bits, limit uint32
		want        api.Errno
	}{
		{at(0x1c00ffff, 0), 0x1c00ffff, limit, api.OK},
		{at(0x1c00ffff, -1), 0x1c00ffff, limit, api.OK},
		{at(0x1c00ffff, 1), 0x1c00ffff, limit, api.ErrWork},
		{at(limit, 0), limit, limit, api.OK},
		{at(limit, 1), limit, limit, api.ErrWork},
		{api.Hash{}, 0x1d010000, limit, api.ErrBits},
		{api.Hash{}, 0x1e00ffff, limit, api.ErrBits},
		{api.Hash{}, 0, limit, api.ErrBits},
		{api.Hash{}, 0x1c80ffff, limit, api.ErrBits},
		{api.Hash{}, limit, 0, api.ErrBits},
		{api.Hash{}, limit, 0xff7fffff, api.ErrBits},
		{at(0x207fffff, 0), 0x1e00ffff, limit, api.ErrBits},
		{api.Hash{31: 1}, 0x1d00ffff, 0x207fffff, api.ErrWork},
		{api.Hash{0: 255}, 0x1d00ffff, 0x207fffff, api.OK},
		{api.Hash{31: 0x7f}, 0x207fffff, 0x207fffff, api.OK},
		{api.Hash{31: 0x80}, 0x207fffff, 0x207fffff, api.ErrWork},
	} {
		if e := target.Meets(x.h, x.bits, x.limit); e != x.want {
			t.Errorf("%d: %v, want %v", k, e, x.want)
		}
	}
}

func scale(bits uint32, num, den uint64, limit uint32) uint32 {
	n, most := expand(bits), expand(limit)
	if n == nil || most == nil || num == 0 || den == 0 {
		return limit
	}
	n.Mul(n, new(big.Int).SetUint64(num)).Quo(n, new(big.Int).SetUint64(den))
	if n.Sign() == 0 || n.Cmp(most) > 0 {
		n = most
	}
	return shrink(n)
}

// P5.5
func TestScale(t *testing.T) {
	parts := []uint64{0, 1, 2, 3, 4, 7, 100, 302400, 1209600, 4838400, 1 << 32, 1 << 63, math.MaxUint64, math.MaxUint64 - 1}
	for _, limit := range []uint32{0x1d00ffff, 0x207fffff, 0x2100ffff, 0, 0x1d80ffff, 0x01010000, 0x01017fff, 0x20001234, 0x04000001} {
		for _, bits := range []uint32{0x1d00ffff, 0x1c7fffff, 0x1b0404cb, 0x207fffff, 0x01010000, 0x03000001, 0x02123456, 0, 0x1cffffff, 0x220000ff, 0x2200ff00} {
			for _, num := range parts {
				for _, den := range parts {
					if got, want := target.Scale(bits, num, den, limit), scale(bits, num, den, limit); got != want {
						t.Fatalf("Scale(%08x, %d, %d, %08x): %08x, want %08x", bits, num, den, limit, got, want)
					}
				}
			}
		}
	}
}

// Example 1.
func TestExample(t *testing.T) {
	want, _ := u256.Shl(u256.Of(0xffff), 8*26)
	if got, e := target.Expand(0x1d00ffff); got != want || e != api.OK {
		t.Error(got, e)
	}
}
