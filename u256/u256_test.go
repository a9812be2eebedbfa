package u256_test

import (
	"math"
	"math/big"
	"math/rand"
	"strings"
	"testing"

	"florin/api"
	"florin/u256"
)

var whole = new(big.Int).Lsh(big.NewInt(1), 256)

func toBig(a u256.U) *big.Int {
	n := new(big.Int)
	for i := 3; i >= 0; i-- {
		n.Lsh(n, 64).Or(n, new(big.Int).SetUint64(a[i]))
	}
	return n
}

// check holds a result modulo 2^256, and its flag, against the true result.
func check(t *testing.T, what string, got u256.U, flag bool, want *big.Int) {
	t.Helper()
	rest := new(big.Int).Mod(want, whole)
	if toBig(got).Cmp(rest) != 0 || flag != (rest.Cmp(want) != 0) {
		t.Fatalf("%s: got %x, %v, want %x", what, toBig(got), flag, want)
	}
}

// numbers are edges, and some that are made at random, of all lengths.
func numbers() []u256.U {
	most := ^uint64(0)
	l := []u256.U{{}, {1}, {2}, {3}, {most}, {0, 1}, {most, most}, {0, 0, 1}, {0, 0, 0, 1}, {most, most, most}, {most, most, most, most}, {0, 0, 0, 1 << 63}, {most, most, most, most >> 1}, {1, 0, 0, 1 << 63}, {0, 1, 0, 0}, {most - 1, most, most, most}}
	r := rand.New(rand.NewSource(1))
	for i := 0; i < 60; i++ {
		var a u256.U
		for k := 0; k <= i%4; k++ {
			a[k] = r.Uint64() >> r.Intn(64)
		}
		l = append(l, a)
	}
	return l
}

// P1.1
func TestSums(t *testing.T) {
	for _, n := range []uint64{0, 1, 77, 1 << 63, ^uint64(0)} {
		if u256.Of(n) != (u256.U{n, 0, 0, 0}) {
			t.Error("Of", n, u256.Of(n))
		}
	}
	greatest := new(big.Int).Sub(whole, big.NewInt(1))
	for _, a := range numbers() {
		if toBig(u256.Not(a)).Cmp(new(big.Int).Sub(greatest, toBig(a))) != 0 {
			t.Fatal("Not", a)
		}
		for _, b := range numbers() {
			s, over := u256.Add(a, b)
			check(t, "Add", s, over, new(big.Int).Add(toBig(a), toBig(b)))
			d, under := u256.Sub(a, b)
			check(t, "Sub", d, under, new(big.Int).Sub(toBig(a), toBig(b)))
			m, lost := u256.Mul(a, b[0])
			check(t, "Mul", m, lost, new(big.Int).Mul(toBig(a), new(big.Int).SetUint64(b[0])))
		}
	}
}

// P1.2, P1.6
func TestDiv(t *testing.T) {
	for _, a := range numbers() {
		for _, b := range numbers() {
			q, r, ok := u256.Div(a, b)
			if b == (u256.U{}) {
				if ok || q != b || r != b {
					t.Fatal("by 0:", a, q, r, ok)
				}
				continue
			}
			wq, wr := new(big.Int).QuoRem(toBig(a), toBig(b), new(big.Int))
			if !ok || toBig(q).Cmp(wq) != 0 || toBig(r).Cmp(wr) != 0 {
				t.Fatal("Div", a, b, q, r, ok)
			}
		}
	}
}

// P1.2
func TestMoves(t *testing.T) {
	places := []int{0, 1, 3, 31, 63, 64, 65, 127, 128, 129, 191, 192, 193, 200, 254, 255, 256, 257, 300, 1000}
	for _, a := range numbers() {
		for _, n := range places {
			s, lost := u256.Shl(a, n)
			check(t, "Shl", s, lost, new(big.Int).Lsh(toBig(a), uint(n)))
			if toBig(u256.Shr(a, n)).Cmp(new(big.Int).Rsh(toBig(a), uint(n))) != 0 {
				t.Fatal("Shr", a, n)
			}
		}
		for _, n := range []int{-1, -64, math.MinInt} {
			if s, lost := u256.Shl(a, n); s != a || lost {
				t.Fatal("Shl below 0", a, n, s, lost)
			}
			if u256.Shr(a, n) != a {
				t.Fatal("Shr below 0", a, n)
			}
		}
		if s, lost := u256.Shl(a, math.MaxInt); s != (u256.U{}) || lost != (a != u256.U{}) {
			t.Fatal("Shl by very much", a, s, lost)
		}
		if u256.Shr(a, math.MaxInt) != (u256.U{}) {
			t.Fatal("Shr by very much", a)
		}
	}
}

// P1.3
func TestOrder(t *testing.T) {
	for _, a := range numbers() {
		if u256.Len(a) != toBig(a).BitLen() {
			t.Fatal("Len", a, u256.Len(a))
		}
		for _, b := range numbers() {
			if u256.Cmp(a, b) != toBig(a).Cmp(toBig(b)) {
				t.Fatal("Cmp", a, b)
			}
		}
	}
}

// P1.4
func TestBytes(t *testing.T) {
	for _, a := range numbers() {
		b := u256.Bytes(a)
		if new(big.Int).SetBytes(b[:]).Cmp(toBig(a)) != 0 {
			t.Fatal("Bytes", a, b)
		}
		if c, e := u256.FromBytes(b[:]); c != a || e != api.OK {
			t.Fatal("FromBytes", a, c, e)
		}
	}
	r := rand.New(rand.NewSource(2))
	for n := 0; n <= 32; n++ {
		b := make([]byte, n)
		r.Read(b)
		if a, e := u256.FromBytes(b); e != api.OK || toBig(a).Cmp(new(big.Int).SetBytes(b)) != 0 {
			t.Fatal("FromBytes", b, a, e)
		}
	}
	for _, n := range []int{33, 34, 64, 1000} {
		for _, last := range []byte{0, 1} {
			b := make([]byte, n)
			b[n-1] = last
			if a, e := u256.FromBytes(b); e != api.ErrBig || a != (u256.U{}) {
				t.Fatal("FromBytes of too many", n, a, e)
			}
		}
	}
}

// P1.5
func TestTexts(t *testing.T) {
	for _, a := range numbers() {
		s := u256.Hex(a)
		if s != toBig(a).Text(16) {
			t.Fatal("Hex", a, s)
		}
		for _, x := range []string{s, "0" + s, strings.Repeat("0", 100) + s, strings.ToUpper(s)} {
			if b, e := u256.FromHex(x); b != a || e != api.OK {
				t.Fatal("FromHex", x, b, e)
			}
		}
	}
	full := strings.Repeat("f", 64)
	for _, x := range []struct {
		s string
		e api.Errno
	}{
		{"", api.ErrForm}, {"g", api.ErrForm}, {"G", api.ErrForm}, {"/", api.ErrForm}, {":", api.ErrForm}, {"@", api.ErrForm}, {"`", api.ErrForm},
		{"-1", api.ErrForm}, {"+1", api.ErrForm}, {" 1", api.ErrForm}, {"1 ", api.ErrForm}, {"0x1", api.ErrForm}, {"1_0", api.ErrForm},
		{"1é", api.ErrForm}, {"\xff", api.ErrForm}, {"a\x80", api.ErrForm}, {"１", api.ErrForm}, {"\x00", api.ErrForm},
		{"1" + strings.Repeat("0", 64), api.ErrBig}, {full + "f", api.ErrBig}, {"00" + full + "0", api.ErrBig}, {"1" + strings.Repeat("0", 300), api.ErrBig},
		{full + "0g", api.ErrForm}, {"g" + full + "0", api.ErrForm},
	} {
		if a, e := u256.FromHex(x.s); e != x.e || a != (u256.U{}) {
			t.Errorf("FromHex(%q): %v, %v", x.s, a, e)
		}
	}
}

// Example 1.
func TestExample(t *testing.T) {
	if s, over := u256.Add(u256.Not(u256.U{}), u256.Of(1)); s != (u256.U{}) || !over {
		t.Error(s, over)
	}
}
