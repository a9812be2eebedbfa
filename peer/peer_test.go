package peer_test

import (
	"bytes"
	"math"
	"math/rand"
	"reflect"
	"slices"
	"testing"

	"florin/api"
	"florin/frame"
	"florin/peer"
	"florin/tx"
	"florin/wire"
)

const magic = 0x0b110907

func same(a, b peer.Peer) bool {
	plain := func(p peer.Peer) peer.Peer {
		p.Buf.Rest = slices.Concat(p.Buf.Rest)
		return p
	}
	return reflect.DeepEqual(plain(a), plain(b))
}

// sameAll holds messages against each other by their kinds and payloads.
func sameAll(t *testing.T, a, b []wire.Message) bool {
	return slices.EqualFunc(a, b, func(x, y wire.Message) bool {
		p, e := wire.Put(x)
		q, f := wire.Put(y)
		return x.Kind == y.Kind && bytes.Equal(p, q) && e == f
	})
}

func at(stage int) peer.Peer {
	p := peer.New(magic, 1000)
	p.Stage = stage
	return p
}

func change(p peer.Peer, f func(p *peer.Peer)) peer.Peer {
	f(&p)
	return p
}

// banned is what is left of a peer that becomes Banned.
func banned(p peer.Peer) peer.Peer {
	p.Stage, p.Asked, p.Buf.Rest = peer.Banned, false, nil
	return p
}

func framed(t *testing.T, cmd string, payload []byte) []byte {
	t.Helper()
	b, e := frame.Put(magic, frame.Msg{Cmd: cmd, Payload: payload})
	if e != api.OK {
		t.Fatal(e)
	}
	return b
}

func text(t *testing.T, m wire.Message) []byte {
	t.Helper()
	b, e := wire.Put(m)
	if e != api.OK {
		t.Fatal(e)
	}
	return framed(t, wire.Name(m.Kind), b)
}

// each is one message of each kind.
func each() []wire.Message {
	return []wire.Message{
		{Kind: wire.Version, Proto: 1, Nonce: 77, Height: 5}, {Kind: wire.Verack}, {Kind: wire.Ping, Nonce: 9}, {Kind: wire.Pong, Nonce: 9}, {Kind: wire.GetHeaders}, {Kind: wire.Headers}, {Kind: wire.Headers, Heads: make([]api.Header, 2)},
		{Kind: wire.Inv, Items: make([]wire.Item, 2)}, {Kind: wire.GetData}, {Kind: wire.NotFound}, {Kind: wire.Merkle}, {Kind: wire.Tx, T: tx.Tx{Ins: make([]tx.In, 1)}},
	}
}

// insane are peers that may not be.
func insane() []peer.Peer {
	with := func(f func(p *peer.Peer)) peer.Peer { return change(at(peer.Ready), f) }
	l := []peer.Peer{
		at(-1), at(4), at(math.MinInt), at(math.MaxInt),
		with(func(p *peer.Peer) { p.Misses = -1 }), with(func(p *peer.Peer) { p.Misses = 4 }),
		with(func(p *peer.Peer) { p.Until = -1 }), with(func(p *peer.Peer) { p.Until = 1<<40 + 1 }),
		with(func(p *peer.Peer) { p.Buf.Cap = -1 }), with(func(p *peer.Peer) { p.Buf.Rest = []byte{1} }), with(func(p *peer.Peer) { p.Buf.Bad, p.Buf.Rest = api.ErrSum, []byte{7} }),
		change(at(peer.Banned), func(p *peer.Peer) { p.Buf.Rest = []byte{1} }), change(at(peer.Banned), func(p *peer.Peer) { p.Buf.Cap = 5000000 }),
	}
	for _, stage := range []int{peer.Fresh, peer.Greeted, peer.Banned} {
		l = append(l, change(at(stage), func(p *peer.Peer) { p.Asked = true }))
	}
	return l
}

// P22.1
func TestNewAndSane(t *testing.T) {
	for _, most := range []int{0, 5, -1, math.MinInt, math.MaxInt, api.MaxPayload + 1} {
		if p := peer.New(magic, most); !same(p, peer.Peer{Buf: frame.New(magic, most)}) || !peer.Sane(p) {
			t.Error("New", most)
		}
	}
	if peer.Fresh != 0 || peer.Greeted != 1 || peer.Ready != 2 || peer.Banned != 3 {
		t.Error("stages")
	}
	rest := framed(t, "ping", nil)[:20]
	for k, p := range []peer.Peer{
		{}, at(peer.Fresh), at(peer.Greeted), at(peer.Ready), at(peer.Banned), {Stage: peer.Ready, Asked: true, Until: 1 << 40, Misses: 3},
		change(at(peer.Ready), func(p *peer.Peer) { p.Buf.Rest = rest }), change(at(peer.Banned), func(p *peer.Peer) { p.Buf.Rest = rest }), change(at(peer.Banned), func(p *peer.Peer) { p.Misses, p.Until = 3, 7 }),
		change(at(peer.Fresh), func(p *peer.Peer) { p.Buf.Bad = api.ErrSum }),
	} {
		if !peer.Sane(p) {
			t.Error("Sane", k)
		}
	}
	for k, p := range insane() {
		if peer.Sane(p) {
			t.Error("Sane", k)
		}
		fresh := peer.New(p.Buf.Magic, p.Buf.Cap)
		ping := text(t, wire.Message{Kind: wire.Ping})
		a, l, e := peer.Feed(p, ping[:30])
		b, m, f := peer.Feed(fresh, ping[:30])
		if !same(a, b) || len(l) != 0 || len(m) != 0 || e != f {
			t.Error("Feed", k)
		}
		for _, m := range each() {
			a, l, e := peer.Handle(p, m)
			b, r, f := peer.Handle(fresh, m)
			if !same(a, b) || !sameAll(t, l, r) || e != f {
				t.Error("Handle", k)
			}
		}
		if a, ok := peer.Ask(p, 5, 5); ok || !same(a, fresh) {
			t.Error("Ask", k)
		}
		if a, ok := peer.Tick(p, math.MaxInt); ok || !same(a, fresh) {
			t.Error("Tick", k)
		}
		if !same(peer.Judge(p, api.OK), fresh) || !same(peer.Judge(p, api.ErrSum), banned(fresh)) {
			t.Error("Judge", k)
		}
		if b, e := peer.Send(p, wire.Message{Kind: wire.Verack}); e != api.OK || !bytes.Equal(b, framed(t, "verack", nil)) {
			t.Error("Send", k, e)
		}
	}
}

// P22.2
func TestFeed(t *testing.T) {
	ping, pong := wire.Message{Kind: wire.Ping, Nonce: 3}, wire.Message{Kind: wire.Pong, Nonce: 4}
	a, b := text(t, ping), text(t, pong)
	unknown := framed(t, "addr", []byte("whatever"))
	short, long := framed(t, "ping", make([]byte, 7)), framed(t, "verack", []byte{1})
	spoilt := bytes.Clone(b)
	spoilt[len(spoilt)-1]++
	for k, x := range []struct {
		text []byte
		want []wire.Message
		rest []byte
		bad  api.Errno
		e    api.Errno
	}{
		{nil, nil, nil, 0, api.OK},
		{slices.Concat(a, b), []wire.Message{ping, pong}, nil, 0, api.OK},
		{slices.Concat(a, b[:20]), []wire.Message{ping}, b[:20], 0, api.OK},
		{slices.Concat(unknown, a, unknown, b), []wire.Message{ping, pong}, nil, 0, api.OK},
		{slices.Concat(a, short, b), []wire.Message{ping}, nil, 0, api.ErrShort},
		{slices.Concat(a, long, b[:20]), []wire.Message{ping}, nil, 0, api.ErrForm},
		{slices.Concat(a, b, spoilt, a), []wire.Message{ping, pong}, nil, api.ErrSum, api.ErrSum},
		{slices.Concat(a, short, spoilt), []wire.Message{ping}, nil, api.ErrSum, api.ErrShort},
		{slices.Concat(a, []byte("x")), []wire.Message{ping}, nil, api.ErrMagic, api.ErrMagic},
		{slices.Concat(a, framed(t, "addr", make([]byte, 1001))), []wire.Message{ping}, nil, api.ErrBig, api.ErrBig},
		{slices.Concat(a, append(bytes.Clone(a[:4]), make([]byte, 20)...)), []wire.Message{ping}, nil, api.ErrForm, api.ErrForm},
	} {
		for _, p := range []peer.Peer{at(peer.Fresh), at(peer.Greeted), {Stage: peer.Ready, Asked: true, Until: 9, Misses: 1, Nonce: 5, Height: 6, Buf: frame.New(magic, 1000)}} {
			want := p
			want.Buf.Rest, want.Buf.Bad = x.rest, x.bad
			if x.e != api.OK {
				want = banned(want)
			}
			got, l, e := peer.Feed(p, x.text)
			if !same(got, want) || !sameAll(t, l, x.want) || e != x.e || !peer.Sane(got) {
				t.Errorf("Feed %d: %v, %d messages, %v", k, got, len(l), e)
			}
			if x.e == api.OK {
				continue
			}
			if again, l, e := peer.Feed(got, a); !same(again, got) || len(l) != 0 || e != api.ErrBanned {
				t.Error("Feed of a banned one", k, e)
			}
		}
	}
	bad := change(at(peer.Ready), func(p *peer.Peer) { p.Buf.Bad = 77 })
	if got, l, e := peer.Feed(bad, a); !same(got, banned(bad)) || len(l) != 0 || e != 77 {
		t.Error("Feed of a bad stream", e)
	}
	out := change(at(peer.Banned), func(p *peer.Peer) { p.Buf.Rest = a[:9] })
	if got, l, e := peer.Feed(out, a); !same(got, out) || len(l) != 0 || e != api.ErrBanned {
		t.Error("Feed of a banned one with a rest", e)
	}
}

// P22.2: however a stream is cut the same is told.
func TestFeedCuts(t *testing.T) {
	r := rand.New(rand.NewSource(1))
	var all []byte
	for _, m := range each() {
		all = append(all, text(t, m)...)
	}
	for k := 0; k < 50; k++ {
		p, got := at(peer.Ready), []wire.Message(nil)
		for rest := all; len(rest) > 0; {
			n := min(len(rest), r.Intn(60))
			var l []wire.Message
			p, l, _ = peer.Feed(p, rest[:n])
			rest = rest[n:]
			got = append(got, l...)
		}
		if !sameAll(t, got, each()) || !same(p, at(peer.Ready)) {
			t.Fatal("cut", k, len(got))
		}
	}
}

// P22.3
func TestHandle(t *testing.T) {
	rest := framed(t, "ping", nil)[:20]
	for _, asked := range []bool{false, true} {
		for stage := peer.Fresh; stage <= peer.Banned; stage++ {
			for _, m := range each() {
				p := at(stage)
				p.Nonce, p.Height, p.Until, p.Misses, p.Buf.Rest = 1, 2, 30, 2, rest
				p.Asked = asked && stage == peer.Ready
				want, replies, e := p, []wire.Message(nil), api.OK
				name := wire.Name(m.Kind)
				switch {
				case stage == peer.Banned:
					e = api.ErrBanned
				case stage == peer.Fresh && name == "version":
					want.Stage, want.Nonce, want.Height = peer.Greeted, 77, 5
					replies = []wire.Message{{Kind: wire.Version, Proto: 70015, Nonce: 77}, {Kind: wire.Verack}}
				case stage == peer.Greeted && name == "verack":
					want.Stage = peer.Ready
				case stage != peer.Ready || name == "version" || name == "verack":
					want, e = banned(p), api.ErrState
				case name == "ping":
					replies = []wire.Message{{Kind: wire.Pong, Nonce: 9}}
				case name == "headers":
					want.Asked, want.Misses = false, 0
				}
				got, l, ge := peer.Handle(p, m)
				if !same(got, want) || !sameAll(t, l, replies) || ge != e {
					t.Error("Handle", stage, name, got, ge)
				}
			}
			for k, m := range []wire.Message{{Kind: -1}, {Kind: 11}, {Kind: wire.Verack, Nonce: 1}, {Kind: wire.Version, Stop: api.Hash{1}}, {Kind: wire.Tx}, {Kind: wire.Headers, Heads: make([]api.Header, 2001)}} {
				p := change(at(stage), func(p *peer.Peer) { p.Buf.Rest, p.Asked = rest, asked && stage == peer.Ready })
				want, e := banned(p), api.ErrForm
				if stage == peer.Banned {
					want, e = p, api.ErrBanned
				}
				if got, l, ge := peer.Handle(p, m); !same(got, want) || len(l) != 0 || ge != e {
					t.Error("Handle of what does not fit", stage, k, ge)
				}
			}
		}
	}
}

// P22.4
func TestAsk(t *testing.T) {
	for k, x := range []struct{ now, wait, until int }{
		{0, 0, 0}, {5, 7, 12}, {-5, 7, 7}, {5, -7, 5}, {math.MinInt, math.MinInt, 0}, {1 << 39, 1 << 39, 1 << 40}, {1<<39 + 1, 0, 1 << 39}, {0, 1<<39 + 1, 1 << 39}, {math.MaxInt, math.MaxInt, 1 << 40}, {1<<39 - 1, 1, 1 << 39},
	} {
		p := change(at(peer.Ready), func(p *peer.Peer) { p.Misses, p.Nonce = 2, 4 })
		want := change(p, func(p *peer.Peer) { p.Asked, p.Until = true, x.until })
		got, ok := peer.Ask(p, x.now, x.wait)
		if !ok || !same(got, want) || !peer.Sane(got) {
			t.Error("Ask", k, ok, got.Until)
		}
		if again, ok := peer.Ask(got, 1, 1); ok || !same(again, got) {
			t.Error("Ask of one that is asked", k, ok)
		}
	}
	for _, stage := range []int{peer.Fresh, peer.Greeted, peer.Banned} {
		if got, ok := peer.Ask(at(stage), 1, 1); ok || !same(got, at(stage)) {
			t.Error("Ask", stage, ok)
		}
	}
}

// P22.4
func TestTick(t *testing.T) {
	asked := peer.Peer{Stage: peer.Ready, Asked: true, Until: 50, Nonce: 4, Buf: frame.New(magic, 1000)}
	for _, now := range []int{0, 49, 50, -1, math.MinInt} {
		if got, ok := peer.Tick(asked, now); ok || !same(got, asked) {
			t.Error("Tick in time", now, ok)
		}
	}
	for _, now := range []int{51, 52, math.MaxInt} {
		for misses := 0; misses <= 3; misses++ {
			p := change(asked, func(p *peer.Peer) { p.Misses, p.Buf.Rest = misses, framed(t, "ping", nil)[:9] })
			want := change(p, func(p *peer.Peer) { p.Asked, p.Misses = false, min(misses+1, 3) })
			if misses >= 2 {
				want = banned(want)
			}
			got, ok := peer.Tick(p, now)
			if !ok || !same(got, want) {
				t.Error("Tick", now, misses, ok, got)
			}
			if again, ok := peer.Tick(got, math.MaxInt); ok || !same(again, got) {
				t.Error("Tick of one that is not asked", ok)
			}
		}
	}
	for stage := peer.Fresh; stage <= peer.Banned; stage++ {
		if got, ok := peer.Tick(at(stage), math.MaxInt); ok || !same(got, at(stage)) {
			t.Error("Tick", stage, ok)
		}
	}
}

// P22.5
func TestJudge(t *testing.T) {
	bans := []api.Errno{api.ErrForm, api.ErrBig, api.ErrSum, api.ErrMagic, api.ErrWork, api.ErrBits, api.ErrCheck, api.ErrMerkle}
	for stage := peer.Fresh; stage <= peer.Banned; stage++ {
		p := change(at(stage), func(p *peer.Peer) {
			p.Misses, p.Until, p.Height, p.Asked, p.Buf.Rest = 2, 9, 8, stage == peer.Ready, framed(t, "ping", nil)[:9]
		})
		for e := api.Errno(-2); e < 20; e++ {
			want := p
			if slices.Contains(bans, e) {
				want = banned(p)
			}
			if got := peer.Judge(p, e); !same(got, want) {
				t.Error("Judge", stage, int(e), got)
			}
		}
	}
}

// P22.5
func TestSend(t *testing.T) {
	for stage := peer.Fresh; stage <= peer.Banned; stage++ {
		for _, m := range each() {
			b, e := peer.Send(at(stage), m)
			if stage == peer.Banned {
				if e != api.ErrBanned || len(b) != 0 {
					t.Error("Send to a banned one", e)
				}
			} else if e != api.OK || !bytes.Equal(b, text(t, m)) {
				t.Error("Send", stage, m.Kind, e)
			}
		}
	}
	for _, m := range []wire.Message{{Kind: -1}, {Kind: 11}, {Kind: wire.Verack, Nonce: 1}, {Kind: wire.Tx}} {
		if b, e := peer.Send(at(peer.Ready), m); e != api.ErrForm || len(b) != 0 {
			t.Error("Send of what does not fit", e)
		}
		if b, e := peer.Send(at(peer.Banned), m); e != api.ErrBanned || len(b) != 0 {
			t.Error("Send of what does not fit to a banned one", e)
		}
	}
	large := wire.Message{Kind: wire.Tx, T: tx.Tx{Ins: make([]tx.In, 500)}}
	for i := range large.T.Ins {
		large.T.Ins[i].Script = make([]byte, 10000)
	}
	if b, e := peer.Send(at(peer.Ready), large); e != api.ErrBig || len(b) != 0 {
		t.Error("Send of too much", e)
	}
}

// P22.6
func TestHonest(t *testing.T) {
	r := rand.New(rand.NewSource(2))
	p, _, e := peer.Handle(at(peer.Fresh), wire.Message{Kind: wire.Version})
	p, _, f := peer.Handle(p, wire.Message{Kind: wire.Verack})
	if e != api.OK || f != api.OK {
		t.Fatal(e, f)
	}
	may := each()[2:]
	now := 0
	for k := 0; k < 1000; k++ {
		now += r.Intn(20)
		p, _ = peer.Ask(p, now, 20)
		p, _ = peer.Tick(p, now)
		m := may[r.Intn(len(may))]
		if p.Asked && now+19 > p.Until {
			m = wire.Message{Kind: wire.Headers}
		}
		if p, _, e = peer.Handle(p, m); e != api.OK || p.Stage != peer.Ready {
			t.Fatal("an honest one is banned", k, e)
		}
	}
	out := peer.Judge(p, api.ErrSum)
	for k := 0; k < 100; k++ {
		out, _, _ = peer.Feed(out, text(t, may[r.Intn(len(may))]))
		out, _, _ = peer.Handle(out, may[r.Intn(len(may))])
		out, _ = peer.Ask(out, k, k)
		out, _ = peer.Tick(out, 1000)
		out = peer.Judge(out, api.OK)
		if out.Stage != peer.Banned {
			t.Fatal("a banned one comes back")
		}
	}
}

// Example 1.
func TestExample(t *testing.T) {
	p, l, e := peer.Handle(peer.New(magic, 1000), wire.Message{Kind: wire.Ping})
	if p.Stage != peer.Banned || len(l) != 0 || e != api.ErrState {
		t.Error(p, l, e)
	}
}
