package frame_test

import (
	"bytes"
	"crypto/sha256"
	"encoding/binary"
	"math"
	"math/rand"
	"slices"
	"strings"
	"testing"

	"florin/api"
	"florin/frame"
)

const magic = 0xd9b4bef9

// text is a message's bytes, as the chapter tells them.
func text(cmd string, payload []byte) []byte {
	b := binary.LittleEndian.AppendUint32(nil, magic)
	b = append(b, cmd...)
	b = append(b, make([]byte, 12-len(cmd))...)
	b = binary.LittleEndian.AppendUint32(b, uint32(len(payload)))
	once := sha256.Sum256(payload)
	twice := sha256.Sum256(once[:])
	return slices.Concat(b, twice[:4], payload)
}

func same(a, b frame.Msg) bool { return a.Cmd == b.Cmd && bytes.Equal(a.Payload, b.Payload) }

func sameBuf(a, b frame.Buf) bool {
	return a.Magic == b.Magic && a.Cap == b.Cap && a.Bad == b.Bad && bytes.Equal(a.Rest, b.Rest)
}

// P6.1
func TestCommand(t *testing.T) {
	for _, s := range []string{"a", "!", "~", "verack", "123456789012", "!~!~"} {
		if !frame.Command(s) {
			t.Errorf("%q", s)
		}
	}
	for _, s := range []string{"", " ", "\x7f", "a b", "1234567890123", "a\x00", "\x00a", "é", "a\x80", "\xff", "ab\x1f", "a\x20"} {
		if frame.Command(s) {
			t.Errorf("%q", s)
		}
	}
}

// P6.1
func TestPut(t *testing.T) {
	for _, cmd := range []string{"a", "verack", "123456789012"} {
		for _, n := range []int{0, 1, 5, 300, 70000} {
			payload := bytes.Repeat([]byte{7}, n)
			b, e := frame.Put(magic, frame.Msg{Cmd: cmd, Payload: payload})
			if e != api.OK || !bytes.Equal(b, text(cmd, payload)) {
				t.Fatal("Put", cmd, n, e)
			}
		}
	}
	most := make([]byte, api.MaxPayload)
	if b, e := frame.Put(magic, frame.Msg{Cmd: "a", Payload: most}); e != api.OK || len(b) != 24+len(most) {
		t.Error("Put of the most", e)
	}
	more := make([]byte, api.MaxPayload+1)
	for _, x := range []struct {
		m frame.Msg
		e api.Errno
	}{{frame.Msg{Cmd: "a", Payload: more}, api.ErrBig}, {frame.Msg{Cmd: "", Payload: more}, api.ErrForm}, {frame.Msg{Cmd: "a b"}, api.ErrForm}, {frame.Msg{}, api.ErrForm}} {
		if b, e := frame.Put(magic, x.m); e != x.e || len(b) != 0 {
			t.Error("Put", x.m.Cmd, len(x.m.Payload), e)
		}
	}
}

// P6.2
func TestGet(t *testing.T) {
	payload := []byte("payload")
	good := text("ping", payload)
	for _, most := range []int{7, 8, 1000, api.MaxPayload, api.MaxPayload + 1, math.MaxInt} {
		m, n, e := frame.Get(magic, most, append(bytes.Clone(good), 1, 2, 3))
		if e != api.OK || n != len(good) || !same(m, frame.Msg{Cmd: "ping", Payload: payload}) {
			t.Fatal("Get", most, m, n, e)
		}
	}
	if m, n, e := frame.Get(magic, -5, text("x", nil)); e != api.OK || n != 24 || m.Cmd != "x" {
		t.Error("Get of no payload", m, n, e)
	}
	with := func(at int, x ...byte) []byte {
		b := bytes.Clone(good)
		copy(b[at:], x)
		return b
	}
	tooBig := with(16, 1, 9, 61, 0) // 4000001
	for k, x := range []struct {
		b    []byte
		most int
		e    api.Errno
	}{
		{nil, 9, api.ErrShort}, {good[:1], 9, api.ErrShort}, {good[:3], 9, api.ErrShort}, {good[:4], 9, api.ErrShort}, {good[:23], 9, api.ErrShort},
		{good[:24], 9, api.ErrShort}, {good[:30], 9, api.ErrShort},
		{[]byte{0}, 9, api.ErrMagic}, {[]byte{0xf9, 0}, 9, api.ErrMagic}, {with(3, 0)[:4], 9, api.ErrMagic}, {with(2, 0), 9, api.ErrMagic}, {with(0, 0xd9, 0xb4, 0xbe, 0xf9), 9, api.ErrMagic},
		{with(3, 0)[:3], 9, api.ErrShort},
		{with(4, 0, 0, 0, 0), 9, api.ErrForm}, {with(4, 32), 9, api.ErrForm}, {with(6, 0), 9, api.ErrForm}, {with(15, 'x'), 9, api.ErrForm}, {with(9, 'x'), 9, api.ErrForm}, {with(4, 0), 9, api.ErrForm}, {with(4, 127), 9, api.ErrForm},
		{with(4, 32)[:24], 0, api.ErrForm}, {with(4, 32)[:23], 0, api.ErrShort},
		{good, 6, api.ErrBig}, {good, 0, api.ErrBig}, {good, -1, api.ErrBig}, {good, math.MinInt, api.ErrBig}, {good[:24], 6, api.ErrBig}, {good[:23], 6, api.ErrShort},
		{tooBig, math.MaxInt, api.ErrBig}, {with(16, 0, 9, 61, 0), math.MaxInt, api.ErrShort}, {with(16, 255, 255, 255, 255), math.MaxInt, api.ErrBig}, {with(19, 1), math.MaxInt, api.ErrBig},
		{with(20, ^good[20]), 9, api.ErrSum}, {with(23, ^good[23]), 9, api.ErrSum}, {with(24, 'q'), 9, api.ErrSum}, {with(30, 'q'), 9, api.ErrSum}, {with(16, 6), 9, api.ErrSum}, {with(20, ^good[20])[:30], 9, api.ErrShort},
	} {
		if m, n, e := frame.Get(magic, x.most, x.b); e != x.e || n != 0 || m.Cmd != "" || len(m.Payload) != 0 {
			t.Errorf("%d: %v, %d, %v, want %v", k, m, n, e, x.e)
		}
	}
	full := text("123456789012", payload)
	if m, n, e := frame.Get(magic, 9, full); e != api.OK || n != len(full) || m.Cmd != "123456789012" {
		t.Error("a command of 12", m, n, e)
	}
}

// P6.3
func TestNewAndSane(t *testing.T) {
	for _, x := range [][2]int{{0, 0}, {-1, 0}, {math.MinInt, 0}, {5, 5}, {api.MaxPayload, api.MaxPayload}, {api.MaxPayload + 1, api.MaxPayload}, {math.MaxInt, api.MaxPayload}} {
		b := frame.New(magic, x[0])
		if !sameBuf(b, frame.Buf{Magic: magic, Cap: x[1]}) || !frame.Sane(b) {
			t.Error("New", x, b)
		}
	}
	good := text("ping", []byte("payload"))
	for k, x := range []struct {
		b    frame.Buf
		want bool
	}{
		{frame.Buf{Magic: magic, Cap: 100}, true},
		{frame.Buf{Magic: magic, Cap: -1}, false},
		{frame.Buf{Magic: magic, Cap: api.MaxPayload + 1}, false},
		{frame.Buf{Magic: magic, Cap: 100, Rest: good[:30]}, true},
		{frame.Buf{Magic: magic, Cap: 6, Rest: good[:30]}, false},
		{frame.Buf{Magic: magic, Cap: 6, Rest: good[:23]}, true},
		{frame.Buf{Magic: magic, Cap: 100, Rest: good}, false},
		{frame.Buf{Magic: magic, Cap: 100, Rest: good[1:20]}, false},
		{frame.Buf{Magic: 7, Cap: 100, Rest: good[:2]}, false},
		{frame.Buf{Magic: magic, Cap: 100, Bad: api.ErrSum}, true},
		{frame.Buf{Magic: magic, Cap: 100, Bad: 99}, true},
		{frame.Buf{Magic: magic, Cap: 100, Bad: -1}, true},
		{frame.Buf{Magic: magic, Cap: 100, Bad: api.ErrSum, Rest: good[:1]}, false},
		{frame.Buf{Magic: magic, Cap: -1, Bad: api.ErrSum}, false},
	} {
		if frame.Sane(x.b) != x.want {
			t.Error("Sane", k)
		}
		if !x.want {
			fresh := frame.New(x.b.Magic, x.b.Cap)
			for _, c := range [][]byte{nil, good, good[:9], {0}} {
				b1, l1 := frame.Feed(x.b, c)
				b2, l2 := frame.Feed(fresh, c)
				if !sameBuf(b1, b2) || !slices.EqualFunc(l1, l2, same) {
					t.Error("Feed of one that is not sane", k)
				}
			}
		}
	}
}

// P6.4
func TestFeed(t *testing.T) {
	one, two := text("one", []byte("1")), text("two", bytes.Repeat([]byte("2"), 50))
	spoilt := bytes.Clone(two)
	spoilt[30]++
	for k, x := range []struct {
		text []byte
		want string
		rest []byte
		bad  api.Errno
	}{
		{nil, "", nil, api.OK},
		{one, "one", nil, api.OK},
		{slices.Concat(one, two, one), "one two one", nil, api.OK},
		{slices.Concat(one, two[:40]), "one", two[:40], api.OK},
		{slices.Concat(one, two[:10]), "one", two[:10], api.OK},
		{slices.Concat(one, spoilt, one), "one", nil, api.ErrSum},
		{slices.Concat(two, []byte("x")), "two", nil, api.ErrMagic},
		{slices.Concat(one, text("big", make([]byte, 51)), one), "one", nil, api.ErrBig},
		{slices.Concat(one, text("big", make([]byte, 51))[:24]), "one", nil, api.ErrBig},
		{slices.Concat(one, append(bytes.Clone(one[:4]), make([]byte, 20)...)), "one", nil, api.ErrForm},
	} {
		b, l := frame.Feed(frame.New(magic, 50), x.text)
		var names []string
		for _, m := range l {
			names = append(names, m.Cmd)
		}
		if strings.Join(names, " ") != x.want || !sameBuf(b, frame.Buf{Magic: magic, Cap: 50, Rest: x.rest, Bad: x.bad}) || !frame.Sane(b) {
			t.Errorf("%d: %v, %v", k, names, b)
		}
		again, more := frame.Feed(b, one)
		if x.bad != api.OK && (!sameBuf(again, b) || len(more) != 0) {
			t.Errorf("%d: a bad stream goes on: %v, %v", k, again, more)
		}
	}
}

// P6.5
func TestCuts(t *testing.T) {
	r := rand.New(rand.NewSource(1))
	for k := 0; k < 200; k++ {
		const most = 40
		var all []byte
		for i := r.Intn(6); i >= 0; i-- {
			payload := make([]byte, r.Intn(most+1))
			r.Read(payload)
			all = append(all, text("cmd", payload)...)
		}
		if k%3 == 0 {
			all[r.Intn(len(all))]++
		}
		whole, want := frame.Feed(frame.New(magic, most), all)
		b := frame.New(magic, most)
		var got []frame.Msg
		for rest := all; len(rest) > 0; {
			n := min(len(rest), r.Intn(30))
			var l []frame.Msg
			b, l = frame.Feed(b, rest[:n])
			rest = rest[n:]
			got = append(got, l...)
			if len(b.Rest) > 24+most-1 || !frame.Sane(b) {
				t.Fatal("kept", len(b.Rest))
			}
		}
		if !slices.EqualFunc(got, want, same) || !sameBuf(b, whole) {
			t.Fatal("cut", k)
		}
	}
}

// A stream that goes on in two ways keeps both apart.
func TestFeedTwice(t *testing.T) {
	one := text("one", []byte("12"))
	b, _ := frame.Feed(frame.New(magic, 50), one[:10])
	x, _ := frame.Feed(b, one[10:20])
	y, _ := frame.Feed(b, one[10:12])
	z, _ := frame.Feed(y, []byte("x"))
	if !bytes.Equal(x.Rest, one[:20]) || !bytes.Equal(b.Rest, one[:10]) || !bytes.Equal(z.Rest, append(bytes.Clone(one[:12]), 'x')) {
		t.Error(x, y, z)
	}
}

// Example 1.
func TestExample(t *testing.T) {
	if b, l := frame.Feed(frame.New(magic, 9), []byte{1}); b.Bad != api.ErrMagic || len(l) != 0 {
		t.Error(b, l)
	}
}
