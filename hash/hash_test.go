package hash_test

import (
	"crypto/sha256"
	"encoding/hex"
	"math/big"
	"math/rand"
	"slices"
	"strings"
	"testing"

	"florin/api"
	"florin/hash"
	"florin/u256"
)

// hashes are edges, and some that are made at random.
func hashes() []api.Hash {
	r := rand.New(rand.NewSource(1))
	var full, first, last api.Hash
	for i := range full {
		full[i] = 255
	}
	first[0], last[31] = 1, 1
	l := []api.Hash{{}, full, first, last}
	for i := 0; i < 40; i++ {
		var h api.Hash
		r.Read(h[:1+r.Intn(32)])
		l = append(l, h)
	}
	return l
}

func turned(h api.Hash) []byte {
	b := slices.Clone(h[:])
	slices.Reverse(b)
	return b
}

// P3.1
func TestTexts(t *testing.T) {
	for _, h := range hashes() {
		s := hash.Text(h)
		if s != hex.EncodeToString(turned(h)) {
			t.Fatalf("Text(%x): %s", h, s)
		}
		mixed := s[:31] + strings.ToUpper(s[31:])
		for _, x := range []string{s, strings.ToUpper(s), mixed} {
			if g, e := hash.Parse(x); g != h || e != api.OK {
				t.Fatalf("Parse(%s): %x, %v", x, g, e)
			}
		}
		for _, x := range []string{s[:63], s + "0", s[:62], s + "00", "0x" + s[2:], s[:63] + "g", "G" + s[1:], s[:63] + " ", "+" + s[1:],
			s[:62] + "é", s[:63] + "\xff", s[:61] + "１", s[:63] + "１", "/" + s[1:], ":" + s[1:], "@" + s[1:], "`" + s[1:], s + s} {
			if g, e := hash.Parse(x); g != (api.Hash{}) || e != api.ErrForm {
				t.Fatalf("Parse(%q): %x, %v", x, g, e)
			}
		}
	}
	if g, e := hash.Parse(""); g != (api.Hash{}) || e != api.ErrForm {
		t.Error("Parse of nothing", g, e)
	}
}

// P3.2
func TestNumbers(t *testing.T) {
	for _, h := range hashes() {
		a := hash.Number(h)
		n := new(big.Int).SetBytes(turned(h))
		if u256.Hex(a) != n.Text(16) {
			t.Fatal("Number", h, a)
		}
		if hash.FromNumber(a) != h {
			t.Fatal("FromNumber", a)
		}
		if hash.Zero(h) != (n.Sign() == 0) {
			t.Fatal("Zero", h)
		}
		for _, g := range hashes() {
			if hash.Cmp(h, g) != n.Cmp(new(big.Int).SetBytes(turned(g))) {
				t.Fatal("Cmp", h, g)
			}
		}
	}
	for i := 0; i < 32; i++ {
		var h api.Hash
		h[i] = 128
		if hash.Zero(h) {
			t.Error("Zero", i)
		}
	}
}

// P3.3
func TestPair(t *testing.T) {
	for _, h := range hashes() {
		for _, g := range hashes()[:8] {
			once := sha256.Sum256(slices.Concat(h[:], g[:]))
			if hash.Pair(h, g) != sha256.Sum256(once[:]) {
				t.Fatal("Pair", h, g)
			}
		}
	}
}

// P3.3, P3.4. No two texts with one sum are known: a witness is never found.
func TestWitness(t *testing.T) {
	texts := []string{"", "a", "b", "ab", "a\x00", "\x00", strings.Repeat("x", 64), strings.Repeat("x", 65)}
	for _, x := range texts {
		for _, y := range texts {
			if hash.Witness([]byte(x), []byte(y)) {
				t.Errorf("Witness(%q, %q)", x, y)
			}
		}
	}
	if hash.Witness(nil, []byte{}) || hash.Witness(nil, nil) || hash.Witness(nil, []byte{0}) {
		t.Error("Witness of nothing")
	}
}

// Example 1.
func TestExample(t *testing.T) {
	h := api.Hash{1}
	if s := hash.Text(h); hash.Number(h) != u256.Of(1) || !strings.HasSuffix(s, "01") || strings.Trim(s[:63], "0") != "" {
		t.Error(s)
	}
}
