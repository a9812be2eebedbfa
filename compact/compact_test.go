package compact_test

import (
	"bytes"
	"encoding/binary"
	"math"
	"slices"
	"testing"

	"florin/api"
	"florin/compact"
)

func numbers() []uint64 {
	l := []uint64{0, 1, 100, 252, 253, 254, 255, 256, 257, 65534, 65535, 65536, 65537, 1<<24 - 1, 1 << 24, 1<<31 - 2, 1<<31 - 1, 1 << 31, 1<<32 - 1, 1 << 32, 1<<32 + 1, 1 << 40, 1 << 56, 1<<63 - 1, 1 << 63, math.MaxUint64}
	for n := uint64(1); n < 1<<62; n = n*3 + 1 {
		l = append(l, n)
	}
	return l
}

// put is the form told in the chapter, written plainly.
func put(n uint64) []byte {
	switch {
	case n < 253:
		return []byte{byte(n)}
	case n < 1<<16:
		return binary.LittleEndian.AppendUint16([]byte{253}, uint16(n))
	case n < 1<<32:
		return binary.LittleEndian.AppendUint32([]byte{254}, uint32(n))
	}
	return binary.LittleEndian.AppendUint64([]byte{255}, n)
}

// P4.1, P4.3
func TestPut(t *testing.T) {
	for _, n := range numbers() {
		want := put(n)
		if got := compact.Put(nil, n); !bytes.Equal(got, want) {
			t.Fatal("Put", n, got)
		}
		if got := compact.Put([]byte("ahead"), n); !bytes.Equal(got, append([]byte("ahead"), want...)) {
			t.Fatal("Put behind", n, got)
		}
		if compact.Size(n) != len(want) {
			t.Fatal("Size", n, compact.Size(n))
		}
		if g, size, e := compact.Get(append(bytes.Clone(want), 7, 7)); g != n || size != len(want) || e != api.OK {
			t.Fatal("Get", n, g, size, e)
		}
	}
}

// Two numbers put behind the same bytes do not run into each other.
func TestPutTwice(t *testing.T) {
	room := make([]byte, 2, 50)
	a := compact.Put(room, 1)
	b := compact.Put(room, 70000)
	if !bytes.Equal(a, []byte{0, 0, 1}) || !bytes.Equal(b[2:], put(70000)) {
		t.Error(a, b)
	}
}

// P4.2
func TestGet(t *testing.T) {
	for _, n := range numbers() {
		b := put(n)
		for k := range b {
			if g, size, e := compact.Get(b[:k]); g != 0 || size != 0 || e != api.ErrShort {
				t.Fatal("Get of", b[:k], g, size, e)
			}
		}
		for _, wide := range [][]byte{
			binary.LittleEndian.AppendUint16([]byte{253}, uint16(n)),
			binary.LittleEndian.AppendUint32([]byte{254}, uint32(n)),
			binary.LittleEndian.AppendUint64([]byte{255}, n),
		} {
			if len(wide) <= len(b) {
				continue
			}
			if g, size, e := compact.Get(wide); g != 0 || size != 0 || e != api.ErrForm {
				t.Fatal("Get of", wide, g, size, e)
			}
			if g, size, e := compact.Bounded(wide, math.MaxUint64); g != 0 || size != 0 || e != api.ErrForm {
				t.Fatal("Bounded of", wide, g, size, e)
			}
			if g, size, e := compact.Bytes(wide, math.MaxInt); g != nil || size != 0 || e != api.ErrForm {
				t.Fatal("Bytes of", wide, g, size, e)
			}
		}
	}
}

// P4.2
func TestBounded(t *testing.T) {
	for _, n := range numbers() {
		for _, most := range append(numbers(), n, n+1, n-1) {
			g, size, e := compact.Bounded(append(put(n), 9), most)
			if n > most || n > 1<<31-1 {
				if g != 0 || size != 0 || e != api.ErrBig {
					t.Fatal("Bounded", n, most, g, size, e)
				}
			} else if g != int(n) || size != len(put(n)) || e != api.OK {
				t.Fatal("Bounded", n, most, g, size, e)
			}
		}
	}
	for _, b := range [][]byte{nil, {}, {253}, {253, 1}, {254, 1, 1, 1}, {255, 1, 1, 1, 1, 1, 1, 1}} {
		if g, size, e := compact.Bounded(b, 0); g != 0 || size != 0 || e != api.ErrShort {
			t.Error("Bounded", b, g, size, e)
		}
	}
}

// P4.2
func TestBytes(t *testing.T) {
	for _, n := range []int{0, 1, 2, 252, 253, 254, 300, 65535, 65536, 70000} {
		text := bytes.Repeat([]byte{5}, n)
		b := append(put(uint64(n)), text...)
		for _, more := range [][]byte{nil, {1, 2}} {
			all := slices.Concat(b, more)
			for _, most := range []int{n, n + 1, math.MaxInt} {
				if g, size, e := compact.Bytes(all, most); !bytes.Equal(g, text) || size != len(b) || e != api.OK {
					t.Fatal("Bytes", n, most, len(g), size, e)
				}
			}
			for _, most := range []int{n - 1, n / 2, -1, math.MinInt} {
				if most >= n {
					continue
				}
				if g, size, e := compact.Bytes(all, most); len(g) != 0 || size != 0 || e != api.ErrBig {
					t.Fatal("Bytes", n, most, len(g), size, e)
				}
			}
		}
		if n > 0 {
			if g, size, e := compact.Bytes(b[:len(b)-1], n); len(g) != 0 || size != 0 || e != api.ErrShort {
				t.Fatal("Bytes that are missing", n, len(g), size, e)
			}
			if _, _, e := compact.Bytes(b[:len(b)-1], n-1); e != api.ErrBig {
				t.Fatal("Bytes that are missing, and too many", n, e)
			}
		}
	}
	for _, x := range []struct {
		b    []byte
		most int
		e    api.Errno
	}{
		{nil, 5, api.ErrShort}, {nil, -1, api.ErrShort}, {[]byte{253, 1}, -1, api.ErrShort}, {[]byte{253, 1, 0}, -1, api.ErrForm}, {[]byte{0}, -1, api.ErrBig}, {[]byte{1}, -1, api.ErrBig},
		{[]byte{254, 255, 255, 255, 127}, math.MaxInt, api.ErrShort}, {[]byte{254, 0, 0, 0, 128}, math.MaxInt, api.ErrBig}, {[]byte{255, 255, 255, 255, 255, 255, 255, 255, 255}, math.MaxInt, api.ErrBig},
	} {
		if g, size, e := compact.Bytes(x.b, x.most); len(g) != 0 || size != 0 || e != x.e {
			t.Error("Bytes", x.b, x.most, g, size, e)
		}
	}
}

// Example 1.
func TestExample(t *testing.T) {
	if got := compact.Put(nil, 253); !bytes.Equal(got, []byte{0xfd, 0xfd, 0x00}) {
		t.Error(got)
	}
}
