package wire_test

import (
	"bytes"
	"encoding/binary"
	"math"
	"reflect"
	"slices"
	"testing"

	"florin/api"
	"florin/header"
	"florin/tx"
	"florin/wire"
)

var commands = []string{"version", "verack", "ping", "pong", "getheaders", "headers", "inv", "getdata", "notfound", "merkleblock", "tx"}

func hashes(n int) []api.Hash {
	l := make([]api.Hash, n)
	for i := range l {
		l[i] = api.Hash{byte(i), byte(i >> 8), 31: 9}
	}
	return l
}

func items(n int) []wire.Item {
	l := make([]wire.Item, n)
	for i, h := range hashes(n) {
		l[i] = wire.Item{Type: 0x01020304 + uint32(i), H: h}
	}
	return l
}

func heads(n int) []api.Header {
	l := make([]api.Header, n)
	for i := range l {
		l[i] = api.Header{Version: uint32(i), Time: 7, Root: api.Hash{5}, Nonce: 0xfffefdfc}
	}
	return l
}

func transaction() tx.Tx {
	return tx.Tx{Version: 2, Ins: []tx.In{{Prev: api.Hash{1}, Script: []byte("in"), Seq: 5}}, Outs: []tx.Out{{Value: 3, Script: []byte("out")}}, Lock: 4}
}

func block(n, flags int) wire.Block {
	return wire.Block{Head: api.Header{Version: 1, Bits: 2, Prev: api.Hash{3}}, Total: 0x01020304, Hashes: hashes(n), Flags: bytes.Repeat([]byte{6}, flags)}
}

// edges are messages that just fit.
func edges() []wire.Message {
	long := transaction()
	long.Outs[0].Script = make([]byte, 10000)
	l := []wire.Message{
		{Kind: wire.Version, Proto: 0x01020304, Nonce: 0x05060708090a0b0c, Height: 0x0d0e0f10}, {Kind: wire.Version}, {Kind: wire.Version, Proto: math.MaxUint32, Nonce: math.MaxUint64, Height: math.MaxUint32},
		{Kind: wire.Verack},
		{Kind: wire.Ping, Nonce: 0x0102030405060708}, {Kind: wire.Pong, Nonce: 1 << 63}, {Kind: wire.Ping},
		{Kind: wire.GetHeaders}, {Kind: wire.GetHeaders, Proto: 70015, Locator: hashes(3), Stop: api.Hash{1, 31: 2}}, {Kind: wire.GetHeaders, Locator: hashes(101)},
		{Kind: wire.Headers}, {Kind: wire.Headers, Heads: heads(2)}, {Kind: wire.Headers, Heads: heads(2000)},
		{Kind: wire.Inv}, {Kind: wire.Inv, Items: items(2)}, {Kind: wire.GetData, Items: items(253)}, {Kind: wire.NotFound, Items: items(1)}, {Kind: wire.Inv, Items: items(50000)},
		{Kind: wire.Merkle}, {Kind: wire.Merkle, Block: block(2, 1)}, {Kind: wire.Merkle, Block: block(4096, 1024)}, {Kind: wire.Merkle, Block: block(0, 3)},
		{Kind: wire.Tx, T: transaction()}, {Kind: wire.Tx, T: long},
	}
	return l
}

// text is a message's payload, as the chapter tells it.
func text(m wire.Message) []byte {
	four := func(b []byte, n uint32) []byte { return binary.LittleEndian.AppendUint32(b, n) }
	eight := func(b []byte, n uint64) []byte { return binary.LittleEndian.AppendUint64(b, n) }
	count := func(b []byte, n int) []byte {
		if n < 253 {
			return append(b, byte(n))
		}
		return binary.LittleEndian.AppendUint16(append(b, 253), uint16(n))
	}
	all := func(b []byte, l []api.Hash) []byte {
		b = count(b, len(l))
		for _, h := range l {
			b = append(b, h[:]...)
		}
		return b
	}
	var b []byte
	switch commands[m.Kind] {
	case "version":
		return four(eight(four(nil, m.Proto), m.Nonce), m.Height)
	case "ping", "pong":
		return eight(nil, m.Nonce)
	case "getheaders":
		return append(all(four(nil, m.Proto), m.Locator), m.Stop[:]...)
	case "headers":
		b, _ = header.PutAll(m.Heads)
	case "inv", "getdata", "notfound":
		b = count(nil, len(m.Items))
		for _, x := range m.Items {
			b = append(four(b, x.Type), x.H[:]...)
		}
	case "merkleblock":
		b = all(four(header.Put(m.Block.Head), m.Block.Total), m.Block.Hashes)
		b = append(count(b, len(m.Block.Flags)), m.Block.Flags...)
	case "tx":
		b, _ = tx.Put(m.T)
	}
	return b
}

// same holds messages against each other, where no list is as good as an empty one.
func same(a, b wire.Message) bool {
	plain := func(m wire.Message) wire.Message {
		m.Heads, m.Locator, m.Items = slices.Concat(m.Heads), slices.Concat(m.Locator), slices.Concat(m.Items)
		m.Block.Hashes, m.Block.Flags = slices.Concat(m.Block.Hashes), slices.Concat(m.Block.Flags)
		m.T.Ins, m.T.Outs = slices.Concat(m.T.Ins), slices.Concat(m.T.Outs)
		for i := range m.T.Ins {
			m.T.Ins[i].Script = slices.Concat(m.T.Ins[i].Script)
		}
		for i := range m.T.Outs {
			m.T.Outs[i].Script = slices.Concat(m.T.Outs[i].Script)
		}
		return m
	}
	return reflect.DeepEqual(plain(a), plain(b))
}

// P9.1
func TestNames(t *testing.T) {
	if wire.Kinds != len(commands) {
		t.Error("Kinds")
	}
	for kind, cmd := range commands {
		if wire.Name(kind) != cmd {
			t.Error("Name", kind, wire.Name(kind))
		}
		if k, ok := wire.Kind(cmd); k != kind || !ok {
			t.Error("Kind", cmd, k, ok)
		}
	}
	for _, kind := range []int{-1, 11, 12, math.MinInt, math.MaxInt} {
		if wire.Name(kind) != "" {
			t.Error("Name", kind)
		}
	}
	for _, cmd := range []string{"", "Version", "version ", "merkle", "block", "addr", "ver"} {
		if k, ok := wire.Kind(cmd); k != 0 || ok {
			t.Error("Kind", cmd, k, ok)
		}
	}
}

// P9.2, P9.4
func TestPut(t *testing.T) {
	for k, m := range edges() {
		if !wire.Fits(m) {
			t.Fatal("Fits", k)
		}
		b, e := wire.Put(m)
		if e != api.OK || !bytes.Equal(b, text(m)) {
			t.Fatal("Put", k, e)
		}
		if g, e := wire.Get(commands[m.Kind], b); e != api.OK || !same(g, m) {
			t.Fatal("Get", k, e, g)
		}
	}
}

// P9.2: what a kind has not is nothing.
func TestFitsAlone(t *testing.T) {
	has := map[int]string{0: "Proto Nonce Height", 1: "", 2: "Nonce", 3: "Nonce", 4: "Proto Locator Stop", 5: "Heads", 6: "Items", 7: "Items", 8: "Items", 9: "Head Total Hashes Flags", 10: "TVersion Ins Outs Lock"}
	set := map[string]func(m *wire.Message){
		"Proto": func(m *wire.Message) { m.Proto = 1 }, "Nonce": func(m *wire.Message) { m.Nonce = 1 << 40 }, "Height": func(m *wire.Message) { m.Height = 1 },
		"Heads": func(m *wire.Message) { m.Heads = heads(1) }, "Locator": func(m *wire.Message) { m.Locator = hashes(1) }, "Stop": func(m *wire.Message) { m.Stop[31] = 1 },
		"Items": func(m *wire.Message) { m.Items = items(1) }, "Head": func(m *wire.Message) { m.Block.Head.Nonce = 1 }, "Total": func(m *wire.Message) { m.Block.Total = 1 },
		"Hashes": func(m *wire.Message) { m.Block.Hashes = hashes(1) }, "Flags": func(m *wire.Message) { m.Block.Flags = []byte{0} },
		"TVersion": func(m *wire.Message) { m.T.Version = 1 }, "Ins": func(m *wire.Message) { m.T.Ins = make([]tx.In, 2) }, "Outs": func(m *wire.Message) { m.T.Outs = make([]tx.Out, 1) }, "Lock": func(m *wire.Message) { m.T.Lock = 1 },
	}
	for kind := range commands {
		for name, f := range set {
			m := wire.Message{Kind: kind}
			if kind == wire.Tx {
				m.T = tx.Tx{Ins: make([]tx.In, 1)}
			}
			f(&m)
			want := slices.Contains(bytesFields(has[kind]), name)
			if wire.Fits(m) != want {
				t.Error("Fits", commands[kind], name, !want)
			}
			if b, e := wire.Put(m); !want && (e != api.ErrForm || len(b) != 0) {
				t.Error("Put", commands[kind], name, e)
			}
		}
		empty := wire.Message{Kind: kind, Heads: []api.Header{}, Locator: []api.Hash{}, Items: []wire.Item{}, Block: wire.Block{Hashes: []api.Hash{}, Flags: []byte{}}, T: tx.Tx{Ins: []tx.In{}, Outs: []tx.Out{}}}
		if wire.Fits(empty) != (kind != wire.Tx) {
			t.Error("Fits of empty lists", commands[kind])
		}
	}
}

func bytesFields(s string) []string {
	var l []string
	for _, b := range bytes.Fields([]byte(s)) {
		l = append(l, string(b))
	}
	return l
}

// P9.2: what is too much, or of no kind.
func TestFitsNot(t *testing.T) {
	long := transaction()
	long.Ins[0].Script = make([]byte, 10001)
	for k, m := range []wire.Message{
		{Kind: -1}, {Kind: 11}, {Kind: math.MinInt}, {Kind: math.MaxInt},
		{Kind: wire.GetHeaders, Locator: hashes(102)}, {Kind: wire.Headers, Heads: heads(2001)},
		{Kind: wire.Inv, Items: items(50001)}, {Kind: wire.GetData, Items: items(50001)}, {Kind: wire.NotFound, Items: items(50001)},
		{Kind: wire.Merkle, Block: block(4097, 1)}, {Kind: wire.Merkle, Block: block(1, 1025)},
		{Kind: wire.Tx}, {Kind: wire.Tx, T: long}, {Kind: wire.Tx, T: tx.Tx{Ins: make([]tx.In, 1001)}}, {Kind: wire.Tx, T: tx.Tx{Version: 1, Outs: make([]tx.Out, 1)}},
	} {
		if wire.Fits(m) {
			t.Error("Fits", k)
		}
		if b, e := wire.Put(m); e != api.ErrForm || len(b) != 0 {
			t.Error("Put", k, e)
		}
	}
}

func wrong(t *testing.T, what any, cmd string, b []byte, want api.Errno) {
	t.Helper()
	if m, e := wire.Get(cmd, b); e != want || !same(m, wire.Message{}) {
		t.Errorf("%s, %v: %v, want %v", cmd, what, e, want)
	}
}

// P9.3
func TestGetPieces(t *testing.T) {
	for k, m := range edges() {
		b := text(m)
		for n := 0; n < len(b); n += 1 + len(b)/200 {
			wrong(t, k, commands[m.Kind], b[:n], api.ErrShort)
		}
		if len(b) > 0 {
			wrong(t, k, commands[m.Kind], b[:len(b)-1], api.ErrShort)
		}
		wrong(t, k, commands[m.Kind], append(bytes.Clone(b), 0), api.ErrForm)
		wrong(t, k, "", b, api.ErrForm)
		wrong(t, k, "addr", b, api.ErrForm)
	}
}

// P9.3
func TestGetWrong(t *testing.T) {
	four, eighty := make([]byte, 4), make([]byte, 80)
	for k, x := range []struct {
		cmd  string
		b    []byte
		want api.Errno
	}{
		{"verack", []byte{0}, api.ErrForm},
		{"getheaders", slices.Concat(four, []byte{101}), api.ErrShort},
		{"getheaders", slices.Concat(four, []byte{102}), api.ErrBig},
		{"getheaders", slices.Concat(four, []byte{253, 1, 0}), api.ErrForm},
		{"getheaders", slices.Concat(four, []byte{253, 1}), api.ErrShort},
		{"getheaders", slices.Concat(four, []byte{255, 255, 255, 255, 255, 255, 255, 255, 255}), api.ErrBig},
		{"headers", []byte{253, 208, 7}, api.ErrShort},
		{"headers", []byte{253, 209, 7}, api.ErrBig},
		{"headers", slices.Concat([]byte{1}, eighty, []byte{1}), api.ErrForm},
		{"inv", []byte{253, 0x50, 0xc3}, api.ErrShort},
		{"inv", []byte{253, 0x51, 0xc3}, api.ErrBig},
		{"getdata", []byte{253, 0x51, 0xc3}, api.ErrBig},
		{"notfound", []byte{254, 0, 0, 1, 0}, api.ErrBig},
		{"notfound", []byte{253, 0, 0}, api.ErrForm},
		{"merkleblock", slices.Concat(eighty, four, []byte{253, 0, 16}), api.ErrShort},
		{"merkleblock", slices.Concat(eighty, four, []byte{253, 1, 16}), api.ErrBig},
		{"merkleblock", slices.Concat(eighty, four, []byte{0, 253, 0, 4}), api.ErrShort},
		{"merkleblock", slices.Concat(eighty, four, []byte{0, 253, 1, 4}), api.ErrBig},
		{"merkleblock", slices.Concat(eighty, four, []byte{0, 253, 1, 0}), api.ErrForm},
		{"merkleblock", slices.Concat(eighty, four, []byte{253, 5, 0}), api.ErrForm},
		{"tx", slices.Concat(four, []byte{0}), api.ErrForm},
		{"tx", slices.Concat(four, []byte{253, 0xe9, 3}), api.ErrBig},
		{"Tx", nil, api.ErrForm},
	} {
		wrong(t, k, x.cmd, x.b, x.want)
	}
}

// Example 1.
func TestExample(t *testing.T) {
	if b, e := wire.Put(wire.Message{Kind: wire.Verack}); len(b) != 0 || e != api.OK {
		t.Error(b, e)
	}
}
