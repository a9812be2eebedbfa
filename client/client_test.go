package client_test

import (
	"bytes"
	"math"
	"reflect"
	"slices"
	"testing"

	"florin/api"
	"florin/client"
	"florin/disk"
	"florin/fork"
	"florin/frame"
	"florin/header"
	"florin/merkle"
	"florin/partial"
	"florin/peer"
	"florin/script"
	"florin/snap"
	"florin/target"
	"florin/tree"
	"florin/tx"
	"florin/watch"
	"florin/wire"
)

const (
	easy  = 0x207fffff
	magic = 0x0709110b
	begin = 1000 // the genesis's time
)

func config() client.Config {
	p := api.Params{Limit: easy, Interval: 1000, Span: 100000, Future: 1 << 20, Index: 100, Orphans: 10}
	return client.Config{P: p, Genesis: api.Header{Bits: easy, Time: begin}, Magic: magic, Cap: 100000, Wait: 60, Sectors: 68}
}

func with(f func(c *client.Config)) client.Config {
	c := config()
	f(&c)
	return c
}

func mined(h api.Header) api.Header {
	for {
		if g, ok := header.Mine(h, easy, 4096); ok {
			return g
		}
		h.Version++
	}
}

func unmined(h api.Header) api.Header {
	for target.Meets(header.Id(h), h.Bits, easy) == api.OK {
		h.Nonce++
	}
	return h
}

// on is a header that may stand on another one; n tells it apart.
func on(prev api.Header, n int) api.Header {
	return mined(api.Header{Prev: header.Id(prev), Bits: easy, Time: prev.Time + 10, Version: uint32(1000 * n)})
}

// chain is n headers that stand on another one.
func chain(prev api.Header, n int) []api.Header {
	var l []api.Header
	for i := 0; i < n; i++ {
		prev = on(prev, i)
		l = append(l, prev)
	}
	return l
}

// same holds what comes of steps against each other, where no list is as good as an empty one.
func same(a, b client.Out) bool {
	sent := slices.EqualFunc(a.Sent, b.Sent, func(x, y client.Sent) bool { return x.Peer == y.Peer && bytes.Equal(x.B, y.B) })
	return a.E == b.E && sent && slices.Equal(a.L, b.L) && a.Id == b.Id && a.Conf == b.Conf
}

func sameDisk(a, b disk.Disk) bool {
	return bytes.Equal(a.Base, b.Base) && slices.EqualFunc(a.Pending, b.Pending, func(x, y disk.Write) bool {
		return x.At == y.At && bytes.Equal(x.Data, y.Data)
	})
}

func text(t *testing.T, m wire.Message) []byte {
	t.Helper()
	b, e := peer.Send(peer.New(magic, 0), m)
	if e != api.OK {
		t.Fatal(m.Kind, e)
	}
	return b
}

func texts(t *testing.T, l ...wire.Message) []byte {
	t.Helper()
	var b []byte
	for _, m := range l {
		b = append(b, text(t, m)...)
	}
	return b
}

func headers(l ...api.Header) wire.Message { return wire.Message{Kind: wire.Headers, Heads: l} }

// rig is a client that is tried.
type rig struct {
	*client.Client
	t *testing.T
	c client.Config
}

func start(t *testing.T, c client.Config) *rig { return &rig{client.New(c), t, c} }

// wants does a step, and holds what comes of it against what should.
func (r *rig) wants(s script.Step, want client.Out) {
	r.t.Helper()
	if got := r.Step(s); !same(got, want) {
		r.t.Errorf("step %d: %+v, want %+v", s.Kind, got, want)
	}
}

// says feeds messages of a peer.
func (r *rig) says(i int, want client.Out, l ...wire.Message) {
	r.t.Helper()
	r.wants(script.Step{Kind: script.Bytes, Peer: i, Data: texts(r.t, l...)}, want)
}

func counts(headers, seen, noted int) client.Out { return client.Out{L: []int{headers, seen, noted}} }

func failed(e api.Errno, headers, seen, noted int) client.Out {
	return client.Out{E: e, L: []int{headers, seen, noted}}
}

// meets connects a peer that greets.
func (r *rig) meets(i int) {
	r.t.Helper()
	r.wants(script.Step{Kind: script.Connect, Peer: i}, client.Out{})
	version := wire.Message{Kind: wire.Version, Proto: 70015, Nonce: uint64(i), Height: 5}
	want := counts(0, 0, 0)
	for _, m := range []wire.Message{{Kind: wire.Version, Proto: 70015, Nonce: uint64(i)}, {Kind: wire.Verack}} {
		want.Sent = append(want.Sent, client.Sent{Peer: i, B: text(r.t, m)})
	}
	r.says(i, want, version, wire.Message{Kind: wire.Verack})
}

func (r *rig) stage(i int) int {
	p, ok := r.Peer(i)
	if !ok {
		return -1
	}
	return p.Stage
}

// tips holds Tip, the step and the call, against what they should tell.
func (r *rig) tips(h api.Header, height, count, dropped, orphans int) {
	r.t.Helper()
	r.wants(script.Step{Kind: script.Tip}, client.Out{Id: header.Id(h), L: []int{height, count, dropped, orphans}})
	node, ok := r.Tip()
	if !ok || node.Head != h || node.Height != height || r.Dropped() != dropped || len(r.Heads()) != count {
		r.t.Errorf("Tip: %+v, %v; %d dropped, %d headers", node, ok, r.Dropped(), len(r.Heads()))
	}
}

// P24.1, P24.2, example 1.
func TestNew(t *testing.T) {
	for _, c := range []client.Config{config(), with(func(c *client.Config) { c.Sectors = -5 }), with(func(c *client.Config) { c.Sectors = 5000 }), with(func(c *client.Config) { c.P.Checks = []api.Check{{Height: 0, H: header.Id(c.Genesis)}, {Height: 1}} }), with(func(c *client.Config) { c.P.Index = 1 }), with(func(c *client.Config) { c.Genesis = api.Header{} })} {
		r := start(t, c)
		r.tips(c.Genesis, 0, 1, 0, 0)
		store, _ := snap.Open(disk.New(c.Sectors))
		w := r.Watched()
		if !slices.Equal(r.Heads(), []api.Header{c.Genesis}) || !sameDisk(r.Disk(), store.L.D) || len(w.Scripts)+len(w.Txs)+len(w.Seens) != 0 {
			t.Error("New")
		}
		for i := -1; i < 18; i++ {
			if p, ok := r.Peer(i); ok || !reflect.DeepEqual(p, peer.Peer{}) {
				t.Error("Peer", i)
			}
		}
	}
}

// P24.1
func TestDead(t *testing.T) {
	dead := []*client.Client{
		nil, {}, client.New(client.Config{}),
		client.New(with(func(c *client.Config) { c.P.Span = 0 })), client.New(with(func(c *client.Config) { c.P.Index = 0 })), client.New(with(func(c *client.Config) { c.P.Checks = make([]api.Check, 1) })),
		client.New(with(func(c *client.Config) { c.P.Orphans = -1 })), client.New(with(func(c *client.Config) { c.P.Checks = make([]api.Check, 101) })),
	}
	for k, x := range dead {
		for kind := -1; kind < 12; kind++ {
			for range 2 {
				if out := x.Step(script.Step{Kind: kind, Data: make([]byte, 32)}); !same(out, client.Out{E: api.ErrState}) {
					t.Error("Step", k, kind, out)
				}
			}
		}
		w := x.Watched()
		if node, ok := x.Tip(); ok || node != (tree.Node{}) || len(x.Heads()) != 0 || x.Dropped() != 0 || len(w.Scripts)+len(w.Txs)+len(w.Seens) != 0 || !sameDisk(x.Disk(), disk.Disk{}) {
			t.Error("what a dead one tells", k)
		}
		if _, ok := x.Peer(0); ok {
			t.Error("Peer", k)
		}
	}
	x, outs := client.Play(client.Config{}, make([]script.Step, 3))
	if x == nil || len(outs) != 3 || outs[2].E != api.ErrState {
		t.Error("Play", outs)
	}
}

// P24.4
func TestKinds(t *testing.T) {
	r := start(t, config())
	for _, kind := range []int{-1, 10, 11, math.MinInt, math.MaxInt} {
		r.wants(script.Step{Kind: kind, Peer: 1, N: 5, Data: []byte{1}}, client.Out{E: api.ErrForm})
	}
}

// P24.4
func TestConnect(t *testing.T) {
	r := start(t, config())
	for _, i := range []int{-1, 16, 255, math.MinInt, math.MaxInt} {
		r.wants(script.Step{Kind: script.Connect, Peer: i}, client.Out{E: api.ErrBig})
		r.wants(script.Step{Kind: script.Bytes, Peer: i}, client.Out{E: api.ErrState})
		r.wants(script.Step{Kind: script.Ask, Peer: i}, client.Out{E: api.ErrState})
	}
	for i := 15; i >= 0; i-- {
		r.wants(script.Step{Kind: script.Bytes, Peer: i, Data: []byte{1}}, client.Out{E: api.ErrState})
		r.wants(script.Step{Kind: script.Connect, Peer: i, N: 7, Data: []byte{1}}, client.Out{})
		if p, ok := r.Peer(i); !ok || !reflect.DeepEqual(p, peer.New(magic, 100000)) {
			t.Error("Peer", i, p, ok)
		}
		r.wants(script.Step{Kind: script.Connect, Peer: i}, client.Out{E: api.ErrKnown})
	}
	r.says(3, failed(api.ErrState, 0, 0, 0), wire.Message{Kind: wire.Ping})
	r.wants(script.Step{Kind: script.Connect, Peer: 3}, client.Out{E: api.ErrBanned})
	r.wants(script.Step{Kind: script.Connect, Peer: 4}, client.Out{E: api.ErrKnown})
}

// P24.4
func TestAskAndTick(t *testing.T) {
	r := start(t, config())
	r.meets(2)
	r.meets(5)
	r.wants(script.Step{Kind: script.Connect, Peer: 7}, client.Out{})
	l := chain(r.c.Genesis, 20)
	r.says(2, counts(20, 0, 0), headers(l...))
	forest := tree.New(50)
	for _, h := range append([]api.Header{r.c.Genesis}, l...) {
		forest.Add(h)
	}
	ask := wire.Message{Kind: wire.GetHeaders, Proto: 70015, Locator: fork.Locator(forest, 20)}
	asks := func(i int) {
		t.Helper()
		r.wants(script.Step{Kind: script.Ask, Peer: i}, client.Out{Sent: []client.Sent{{Peer: i, B: text(t, ask)}}})
		r.wants(script.Step{Kind: script.Ask, Peer: i}, client.Out{E: api.ErrState})
	}
	ticks := func(n int, late ...int) {
		t.Helper()
		r.wants(script.Step{Kind: script.Tick, N: n}, client.Out{L: late})
	}
	until := func(i int) int {
		p, _ := r.Peer(i)
		return p.Until
	}
	r.wants(script.Step{Kind: script.Ask, Peer: 7}, client.Out{E: api.ErrState})
	r.wants(script.Step{Kind: script.Ask, Peer: 3}, client.Out{E: api.ErrState})
	asks(5)
	ticks(40)
	asks(2)
	if until(5) != 60 || until(2) != 100 {
		t.Error("Until", until(5), until(2))
	}
	ticks(20)
	ticks(-100)
	ticks(math.MinInt)
	ticks(1, 5)
	asks(5)
	ticks(1000, 2, 5)
	ticks(1000)
	// A third miss is a ban.
	asks(5)
	ticks(100, 5)
	if r.stage(5) != peer.Banned || r.stage(2) != peer.Ready {
		t.Error("stages", r.stage(5), r.stage(2))
	}
	r.wants(script.Step{Kind: script.Ask, Peer: 5}, client.Out{E: api.ErrState})
	// Headers, also none, are the answer.
	asks(2)
	r.says(2, counts(0, 0, 0), headers())
	ticks(1000)
	asks(2)
	if p, _ := r.Peer(2); p.Misses != 0 {
		t.Error("Misses", p.Misses)
	}
	// The time ends at 2^32.
	r.says(2, counts(0, 0, 0), headers())
	ticks(math.MaxInt)
	asks(2)
	if until(2) != 1<<32+60 {
		t.Error("Until", until(2))
	}
	ticks(5)
	r.says(2, counts(0, 0, 0), headers())
	asks(2)
	if until(2) != 1<<32+60 {
		t.Error("Until", until(2))
	}
}

// P24.4
func TestWatchAndTx(t *testing.T) {
	r := start(t, config())
	watches := func(s string, e api.Errno) {
		t.Helper()
		r.wants(script.Step{Kind: script.Watch, Data: []byte(s)}, client.Out{E: e})
	}
	watches("mine", api.OK)
	watches("mine", api.ErrKnown)
	watches(string(make([]byte, 10001)), api.ErrBig)
	if w := r.Watched(); len(w.Scripts) != 1 || string(w.Scripts[0]) != "mine" {
		t.Error("Watched", w.Scripts)
	}
	r.meets(1)
	pays := tx.Tx{Ins: make([]tx.In, 1), Outs: []tx.Out{{Script: []byte("mine")}}}
	other := tx.Tx{Ins: make([]tx.In, 1), Outs: []tx.Out{{Script: []byte("other")}}}
	id, _ := tx.Id(pays)
	otherId, _ := tx.Id(other)
	asks := func(b []byte, want client.Out) {
		t.Helper()
		r.wants(script.Step{Kind: script.Tx, Data: b}, want)
	}
	r.says(1, counts(0, 0, 1), wire.Message{Kind: wire.Tx, T: other}, wire.Message{Kind: wire.Tx, T: pays}, wire.Message{Kind: wire.Tx, T: pays})
	asks(id[:], client.Out{E: api.ErrOrphan})
	asks(id[:31], client.Out{E: api.ErrForm})
	asks(append(id[:], 0), client.Out{E: api.ErrForm})
	asks(nil, client.Out{E: api.ErrForm})

	leaves := []api.Hash{otherId, {1}, id}
	root, _ := merkle.Root(leaves)
	part, _ := partial.Build(leaves, []bool{true, false, true})
	h := mined(api.Header{Prev: header.Id(r.c.Genesis), Bits: easy, Time: begin + 10, Root: root})
	block := wire.Message{Kind: wire.Merkle, Block: wire.Block{Head: h, Total: part.Total, Hashes: part.Hashes, Flags: part.Flags}}
	// Of a block that is not there yet nothing is seen, but nobody is banned for it.
	r.says(1, counts(0, 0, 0), block)
	asks(id[:], client.Out{E: api.ErrOrphan})
	r.says(1, counts(1, 1, 0), headers(h), block, block)
	conf := watch.Conf{Id: id, Block: header.Id(h), Pos: 2, Depth: 1}
	asks(id[:], client.Out{Conf: conf})
	asks(otherId[:], client.Out{E: api.ErrOrphan})
	next := on(h, 1)
	r.says(1, counts(1, 0, 0), headers(next))
	conf.Depth = 2
	asks(id[:], client.Out{Conf: conf})
	// With another best chain it is not confirmed any more; with this one again it is.
	branch := chain(r.c.Genesis, 3)
	r.says(1, counts(3, 0, 0), headers(branch...))
	asks(id[:], client.Out{E: api.ErrOrphan})
	r.says(1, counts(2, 0, 0), headers(chain(next, 2)...))
	conf.Depth = 4
	asks(id[:], client.Out{Conf: conf})
	bad := block
	bad.Block.Total++
	r.says(1, failed(api.ErrMerkle, 0, 0, 0), bad, headers(on(next, 9)))
	if r.stage(1) != peer.Banned {
		t.Error("who sends what proves nothing is not banned")
	}
	if w := r.Watched(); !slices.Equal(w.Txs, []api.Hash{id}) || !slices.Equal(w.Seens, []watch.Seen{{Id: id, Block: header.Id(h), Pos: 2}}) {
		t.Error("Watched", w)
	}
}

// P24.3
func TestOrphans(t *testing.T) {
	r := start(t, with(func(c *client.Config) { c.P.Orphans = 3 }))
	r.meets(0)
	g := r.c.Genesis
	a := on(g, 1)
	b, c := on(a, 1), on(a, 2)
	d := on(b, 1)
	e := on(d, 1)
	r.says(0, counts(0, 0, 0), headers(d, c))
	r.tips(g, 0, 1, 0, 2)
	r.says(0, counts(0, 0, 0), headers(d, c, d))
	r.tips(g, 0, 1, 0, 2)
	r.says(0, counts(0, 0, 0), headers(b))
	r.tips(g, 0, 1, 0, 3)
	// There is no room for one more; one of these, told again, is not one more.
	r.says(0, counts(0, 0, 0), headers(e))
	r.tips(g, 0, 1, 1, 3)
	r.says(0, counts(0, 0, 0), headers(b, e))
	r.tips(g, 0, 1, 2, 3)
	// All that waited comes, in the order in which it waited: those of one header first, then those of these.
	r.says(0, counts(4, 0, 0), headers(a))
	r.tips(d, 3, 5, 2, 0)
	if !slices.Equal(r.Heads(), []api.Header{g, a, c, b, d}) {
		t.Error("order", r.Heads())
	}
	// They were appended in that order.
	if _, l := snap.Open(r.Disk()); !slices.Equal(l, []api.Header{a, c, b, d}) {
		t.Error("the store", len(l))
	}
	r.says(0, counts(1, 0, 0), headers(e, a, d))
	r.tips(e, 4, 6, 2, 0)

	none := start(t, with(func(c *client.Config) { c.P.Orphans = 0 }))
	none.meets(0)
	none.says(0, counts(0, 0, 0), headers(b))
	none.tips(g, 0, 1, 1, 0)
}

// P24.3: the order in which orphans come is by turns, not by depth.
func TestOrphansByTurns(t *testing.T) {
	r := start(t, config())
	r.meets(0)
	g := r.c.Genesis
	a := on(g, 1)
	b, c := on(a, 1), on(a, 2)
	d, e := on(c, 1), on(b, 1)
	f, h := on(b, 2), on(e, 1)
	r.says(0, counts(0, 0, 0), headers(h, d, e, b, f, c))
	r.says(0, counts(7, 0, 0), headers(a))
	if !slices.Equal(r.Heads(), []api.Header{g, a, b, c, e, f, d, h}) {
		for _, x := range r.Heads() {
			t.Error(slices.Index([]api.Header{g, a, b, c, d, e, f, h}, x))
		}
	}
}

// P24.3: each is judged at the time when it came.
func TestOrphansTime(t *testing.T) {
	r := start(t, with(func(c *client.Config) { c.P.Future = 0 }))
	r.meets(0)
	r.wants(script.Step{Kind: script.Tick, N: begin + 15}, client.Out{})
	a := on(r.c.Genesis, 1) // its time is begin + 10
	b := on(a, 1)           // begin + 20: too late, when it comes
	c := on(a, 2)
	r.says(0, counts(0, 0, 0), headers(b))
	r.wants(script.Step{Kind: script.Tick, N: 5}, client.Out{})
	r.says(0, counts(0, 0, 0), headers(b, c))
	r.tips(r.c.Genesis, 0, 1, 0, 2)
	r.wants(script.Step{Kind: script.Tick, N: 100}, client.Out{})
	// b is judged as of its first time, and is gone; c came in time.
	r.says(0, counts(2, 0, 0), headers(a))
	r.tips(c, 2, 3, 0, 0)
	r.says(0, counts(1, 0, 0), headers(b))
	late := on(c, 1)
	late.Time = begin + 121
	late = mined(late)
	r.says(0, counts(0, 0, 0), headers(late))
	r.wants(script.Step{Kind: script.Tick, N: 1}, client.Out{})
	r.says(0, counts(1, 0, 0), headers(late))
}

// P24.3: what orphans turn out to be bans nobody.
func TestOrphansWrong(t *testing.T) {
	r := start(t, config())
	r.meets(0)
	a := on(r.c.Genesis, 1)
	bad := unmined(on(a, 1))
	hard := on(a, 2)
	hard.Bits--
	good := on(a, 3)
	r.says(0, counts(0, 0, 0), headers(bad, hard, good))
	r.says(0, counts(2, 0, 0), headers(a))
	r.tips(good, 2, 3, 0, 0)
	if r.stage(0) != peer.Ready {
		t.Error("a ban for an orphan")
	}
	r.says(0, failed(api.ErrWork, 0, 0, 0), headers(bad))
}

// P24.3: no room in the tree, or in the store.
func TestFull(t *testing.T) {
	r := start(t, with(func(c *client.Config) { c.P.Index = 4 }))
	r.meets(0)
	l := chain(r.c.Genesis, 6)
	r.says(0, counts(3, 0, 0), headers(l...))
	// The fourth one finds no room; the fifth one is an orphan, and so is the sixth one.
	r.tips(l[2], 3, 4, 1, 2)
	if _, stored := snap.Open(r.Disk()); !slices.Equal(stored, l[:3]) {
		t.Error("the store", len(stored))
	}
	other := start(t, with(func(c *client.Config) { c.P.Index, c.P.Orphans = 3, 1 }))
	other.meets(0)
	other.says(0, counts(0, 0, 0), headers(l[1], l[2]))
	other.tips(other.c.Genesis, 0, 1, 1, 1)
	other.says(0, counts(2, 0, 0), headers(l[0]))
	other.says(0, counts(0, 0, 0), headers(l[2]))
	other.tips(l[1], 2, 3, 2, 0)
	// An orphan that finds no room is dropped in turn.
	third := start(t, with(func(c *client.Config) { c.P.Index = 2 }))
	third.meets(0)
	third.says(0, counts(1, 0, 0), headers(l[1], l[0]))
	third.tips(l[0], 1, 2, 1, 0)

	small := start(t, with(func(c *client.Config) { c.Sectors = 4 + 2*4*2 }))
	small.meets(0)
	small.says(0, counts(6, 0, 0), headers(l...))
	small.tips(l[5], 6, 7, 4, 0)
	if _, stored := snap.Open(small.Disk()); !slices.Equal(stored, l[:2]) {
		t.Error("the store", len(stored))
	}
	small.wants(script.Step{Kind: script.Compact}, client.Out{E: api.ErrFull})
	small.tips(l[5], 6, 7, 4, 0)
	none := start(t, with(func(c *client.Config) { c.Sectors = 3 }))
	none.meets(0)
	none.says(0, counts(1, 0, 0), headers(l[0]))
	none.tips(l[0], 1, 2, 1, 0)
	none.wants(script.Step{Kind: script.Sync}, client.Out{})
	none.wants(script.Step{Kind: script.Compact}, client.Out{E: api.ErrFull})
}

// P24.4
func TestCrash(t *testing.T) {
	r := start(t, config())
	r.meets(0)
	r.wants(script.Step{Kind: script.Watch, Data: []byte("mine")}, client.Out{})
	r.wants(script.Step{Kind: script.Tick, N: 77}, client.Out{})
	l := chain(r.c.Genesis, 12)
	r.says(0, counts(3, 0, 0), headers(l[:3]...))
	r.wants(script.Step{Kind: script.Sync}, client.Out{})
	if len(r.Disk().Pending) != 0 {
		t.Error("Sync")
	}
	r.says(0, counts(2, 0, 0), headers(l[3], l[4], l[7]))
	r.tips(l[4], 5, 6, 0, 1)
	want := disk.Crash(r.Disk(), []byte{32, 32, 255, 40, 32, 31})
	store, _ := snap.Open(want)
	// The fourth one was written whole, the fifth one was not.
	r.wants(script.Step{Kind: script.Crash, Data: []byte{32, 32, 255, 40, 32, 31}}, client.Out{L: []int{4}})
	r.tips(l[3], 4, 5, 0, 0)
	if !slices.Equal(r.Heads(), append([]api.Header{r.c.Genesis}, l[:4]...)) || !sameDisk(r.Disk(), store.L.D) {
		t.Error("behind a crash")
	}
	if w := r.Watched(); len(w.Scripts) != 1 {
		t.Error("what is watched is gone")
	}
	if _, ok := r.Peer(0); ok {
		t.Error("a peer is there")
	}
	r.meets(0)
	r.wants(script.Step{Kind: script.Ask, Peer: 0}, client.Out{Sent: []client.Sent{{Peer: 0, B: text(t, wire.Message{Kind: wire.GetHeaders, Proto: 70015, Locator: ids(l[3], l[2], l[1], l[0], r.c.Genesis)})}}})
	if p, _ := r.Peer(0); p.Until != 77+60 {
		t.Error("the time is gone", p.Until)
	}
	// A banned one may come again behind a crash.
	r.says(0, failed(api.ErrState, 0, 0, 0), wire.Message{Kind: wire.Verack})
	r.wants(script.Step{Kind: script.Crash}, client.Out{L: []int{4}})
	r.meets(0)
	// All that is not synced is gone, if nothing of it was written; the log goes on where it ends.
	r.says(0, counts(8, 0, 0), headers(l...))
	r.tips(l[11], 12, 13, 4, 0)
	r.wants(script.Step{Kind: script.Crash}, client.Out{L: []int{4}})
	r.tips(l[3], 4, 5, 4, 0)
}

func ids(l ...api.Header) []api.Hash {
	var h []api.Hash
	for _, x := range l {
		h = append(h, header.Id(x))
	}
	return h
}

// P24.4: a crash of a client with less room in its tree than there was, and one whose log does not begin at its genesis.
func TestCrashTakes(t *testing.T) {
	r := start(t, with(func(c *client.Config) { c.P.Index = 5 }))
	r.meets(0)
	l := chain(r.c.Genesis, 4)
	r.says(0, counts(4, 0, 0), headers(l...))
	r.wants(script.Step{Kind: script.Crash, Data: bytes.Repeat([]byte{32}, 16)}, client.Out{L: []int{4}})
	// The log keeps the time of no header: they are not judged anew.
	r.tips(l[3], 4, 5, 0, 0)
}

// P24.4
func TestCompact(t *testing.T) {
	r := start(t, config())
	r.meets(0)
	r.wants(script.Step{Kind: script.Compact}, client.Out{L: []int{1}})
	l := chain(r.c.Genesis, 7)
	branch := chain(l[0], 1)
	branch[0] = on(l[0], 77)
	r.says(0, counts(3, 0, 0), headers(l[0], branch[0], l[1]))
	before, _ := snap.Open(r.Disk())
	want, e := snap.Compact(snap.Store{L: before.L, Epoch: 1}, []api.Header{l[0], branch[0], l[1]})
	r.wants(script.Step{Kind: script.Compact}, client.Out{L: []int{2}})
	if e != api.OK || !sameDisk(r.Disk(), want.L.D) {
		t.Error("Compact", e)
	}
	r.wants(script.Step{Kind: script.Crash}, client.Out{L: []int{3}})
	if !slices.Equal(r.Heads(), []api.Header{r.c.Genesis, l[0], branch[0], l[1]}) {
		t.Error("behind a crash")
	}
	r.meets(0)
	r.says(0, counts(5, 0, 0), headers(l[2:]...))
	r.wants(script.Step{Kind: script.Compact}, client.Out{L: []int{3}})
	r.says(0, counts(1, 0, 0), headers(on(l[6], 1)))
	r.tips(on(l[6], 1), 8, 10, 1, 0)
	r.wants(script.Step{Kind: script.Compact}, client.Out{E: api.ErrFull})
	r.wants(script.Step{Kind: script.Crash}, client.Out{L: []int{8}})
	r.tips(l[6], 7, 9, 1, 0)
}

// P24.5
func TestBytesBans(t *testing.T) {
	g := config().Genesis
	a := on(g, 1)
	b := on(a, 1)
	hard := on(a, 2)
	hard.Bits--
	hard = mined(hard)
	early := on(a, 3)
	early.Time = 5
	early = mined(early)
	point := func(c *client.Config) { c.P.Checks = []api.Check{{Height: 2, H: header.Id(b)}} }
	for k, x := range []struct {
		c      client.Config
		l      []api.Header
		want   client.Out
		banned bool
		tip    api.Header
	}{
		{config(), []api.Header{a, b}, counts(2, 0, 0), false, b},
		{config(), []api.Header{a, a, g, b}, counts(2, 0, 0), false, b},
		{config(), []api.Header{a, unmined(b), b}, failed(api.ErrWork, 1, 0, 0), true, a},
		{config(), []api.Header{a, hard, b}, failed(api.ErrBits, 1, 0, 0), true, a},
		{config(), []api.Header{a, early, b}, counts(2, 0, 0), false, b},
		{with(point), []api.Header{a, b}, counts(2, 0, 0), false, b},
		{with(point), []api.Header{a, on(a, 4), b}, failed(api.ErrCheck, 1, 0, 0), true, a},
		{config(), []api.Header{b, on(a, 5)}, counts(0, 0, 0), false, g},
		{with(func(c *client.Config) { c.P.Index = 2 }), []api.Header{a, b, b}, counts(1, 0, 0), false, a},
	} {
		r := start(t, x.c)
		r.meets(0)
		// What comes behind the ban is not handled: the ping is not answered.
		want := x.want
		if !x.banned {
			want.Sent = []client.Sent{{Peer: 0, B: text(t, wire.Message{Kind: wire.Pong, Nonce: 3})}}
		}
		r.says(0, want, headers(x.l...), wire.Message{Kind: wire.Ping, Nonce: 3})
		if node, _ := r.Tip(); node.Head != x.tip || (r.stage(0) == peer.Banned) != x.banned {
			t.Error("bans", k, node.Height, r.stage(0))
		}
		if x.banned {
			r.says(0, failed(api.ErrBanned, 0, 0, 0), headers(b))
			r.says(0, failed(api.ErrBanned, 0, 0, 0))
			r.wants(script.Step{Kind: script.Ask, Peer: 0}, client.Out{E: api.ErrState})
		}
	}
}

// P24.5: errors of Handle, of Judge and of Feed.
func TestBytesErrors(t *testing.T) {
	g := config().Genesis
	a := on(g, 1)
	pong := client.Sent{Peer: 0, B: text(t, wire.Message{Kind: wire.Pong, Nonce: 3})}
	ping := text(t, wire.Message{Kind: wire.Ping, Nonce: 3})
	spoilt := bytes.Clone(ping)
	spoilt[len(spoilt)-1]++
	short, _ := frame.Put(magic, frame.Msg{Cmd: "ping", Payload: []byte{1}})
	unknown, _ := frame.Put(magic, frame.Msg{Cmd: "addr", Payload: []byte{1}})
	heads := text(t, headers(a))
	verack := text(t, wire.Message{Kind: wire.Verack})
	bad := text(t, headers(unmined(a)))
	withPong := func(o client.Out) client.Out {
		o.Sent = []client.Sent{pong}
		return o
	}
	for k, x := range []struct {
		b      []byte
		want   client.Out
		banned bool
	}{
		{nil, counts(0, 0, 0), false},
		{slices.Concat(ping, unknown, heads), withPong(counts(1, 0, 0)), false},
		{slices.Concat(ping, heads, spoilt), withPong(failed(api.ErrSum, 1, 0, 0)), true},
		{slices.Concat(ping, heads, short, ping), withPong(failed(api.ErrShort, 1, 0, 0)), true},
		{slices.Concat(ping, heads, []byte{1}), withPong(failed(api.ErrMagic, 1, 0, 0)), true},
		{slices.Concat(ping, verack, heads), withPong(failed(api.ErrState, 0, 0, 0)), true},
		{slices.Concat(ping, verack, heads, spoilt), withPong(failed(api.ErrState, 0, 0, 0)), true},
		{slices.Concat(bad, ping, spoilt), failed(api.ErrWork, 0, 0, 0), true},
		{slices.Concat(ping, ping[:9]), withPong(counts(0, 0, 0)), false},
		{slices.Concat(ping, verack, ping[:9]), withPong(failed(api.ErrState, 0, 0, 0)), true},
	} {
		r := start(t, config())
		r.meets(0)
		r.wants(script.Step{Kind: script.Ask, Peer: 0}, client.Out{Sent: []client.Sent{{Peer: 0, B: text(t, wire.Message{Kind: wire.GetHeaders, Proto: 70015, Locator: ids(g)})}}})
		r.wants(script.Step{Kind: script.Bytes, Peer: 0, Data: x.b}, x.want)
		p, _ := r.Peer(0)
		if (p.Stage == peer.Banned) != x.banned || x.banned && (p.Asked || len(p.Buf.Rest) > 0) || p.Nonce != 0 || p.Height != 5 {
			t.Error("a peer behind its bytes", k, p)
		}
	}
	// A greeting ahead of an error is a greeting all the same.
	r := start(t, config())
	r.wants(script.Step{Kind: script.Connect, Peer: 0}, client.Out{})
	want := failed(api.ErrMagic, 0, 0, 0)
	for _, m := range []wire.Message{{Kind: wire.Version, Proto: 70015, Nonce: 8}, {Kind: wire.Verack}} {
		want.Sent = append(want.Sent, client.Sent{Peer: 0, B: text(t, m)})
	}
	r.wants(script.Step{Kind: script.Bytes, Peer: 0, Data: append(text(t, wire.Message{Kind: wire.Version, Nonce: 8, Height: 9}), 1)}, want)
	if p, _ := r.Peer(0); p.Stage != peer.Banned || p.Nonce != 8 || p.Height != 9 {
		t.Error("a peer that greets, and is banned", p)
	}
}

// P24.5: however the bytes are cut the same comes of them.
func TestBytesCut(t *testing.T) {
	all := texts(t, wire.Message{Kind: wire.Version, Nonce: 8}, wire.Message{Kind: wire.Verack}, headers(chain(config().Genesis, 4)...), wire.Message{Kind: wire.Ping})
	for _, size := range []int{1, 7, 50, len(all)} {
		r := start(t, config())
		r.wants(script.Step{Kind: script.Connect, Peer: 9}, client.Out{})
		came, sent := 0, 0
		for rest := all; len(rest) > 0; {
			n := min(size, len(rest))
			out := r.Step(script.Step{Kind: script.Bytes, Peer: 9, Data: rest[:n]})
			rest = rest[n:]
			came += out.L[0]
			sent += len(out.Sent)
			if out.E != api.OK {
				t.Fatal(out.E)
			}
		}
		if came != 4 || sent != 3 {
			t.Error("cut", size, came, sent)
		}
	}
}

// P24.5
func TestInv(t *testing.T) {
	r := start(t, config())
	r.meets(4)
	items := func(types ...uint32) []wire.Item {
		var l []wire.Item
		for i, n := range types {
			l = append(l, wire.Item{Type: n, H: api.Hash{byte(i), 5}})
		}
		return l
	}
	all := items(0, 1, 2, 3, 4, math.MaxUint32, 1)
	want := counts(0, 0, 0)
	want.Sent = []client.Sent{{Peer: 4, B: text(t, wire.Message{Kind: wire.GetData, Items: []wire.Item{all[1], all[2], all[3], all[6]}})}}
	r.says(4, want, wire.Message{Kind: wire.Inv, Items: all})
	r.says(4, counts(0, 0, 0), wire.Message{Kind: wire.Inv, Items: items(0, 4, 5)}, wire.Message{Kind: wire.Inv})
	for _, kind := range []int{wire.GetData, wire.NotFound} {
		r.says(4, counts(0, 0, 0), wire.Message{Kind: kind, Items: all})
	}
}

// P24.5
func TestGetHeaders(t *testing.T) {
	r := start(t, config())
	r.meets(4)
	l := chain(r.c.Genesis, 6)
	r.says(4, counts(7, 0, 0), headers(append(l, on(l[0], 99))...))
	asks := func(want []api.Header, stop api.Hash, locator ...api.Hash) {
		t.Helper()
		out := counts(0, 0, 0)
		out.Sent = []client.Sent{{Peer: 4, B: text(t, headers(want...))}}
		r.says(4, out, wire.Message{Kind: wire.GetHeaders, Proto: 3, Locator: locator, Stop: stop})
	}
	asks(l, api.Hash{})
	asks(l[3:], api.Hash{}, header.Id(l[2]), header.Id(l[1]))
	asks(l[3:5], header.Id(l[4]), header.Id(l[2]))
	asks(l, api.Hash{}, header.Id(on(l[0], 99)))
	asks(nil, api.Hash{}, header.Id(l[5]))
}

// P24.5: one step tells of all its messages, and sends the replies in their order.
func TestBytesTogether(t *testing.T) {
	r := start(t, config())
	r.meets(0)
	r.wants(script.Step{Kind: script.Watch, Data: []byte("mine")}, client.Out{})
	pays := tx.Tx{Ins: make([]tx.In, 1), Outs: []tx.Out{{Script: []byte("mine")}}}
	id, _ := tx.Id(pays)
	h := mined(api.Header{Prev: header.Id(r.c.Genesis), Bits: easy, Time: begin + 10, Root: id})
	item := wire.Item{Type: 2, H: header.Id(h)}
	want := counts(2, 1, 1)
	for _, m := range []wire.Message{{Kind: wire.Pong, Nonce: 1}, {Kind: wire.GetData, Items: []wire.Item{item}}, {Kind: wire.Pong, Nonce: 2}} {
		want.Sent = append(want.Sent, client.Sent{Peer: 0, B: text(t, m)})
	}
	r.says(0, want,
		wire.Message{Kind: wire.Ping, Nonce: 1}, wire.Message{Kind: wire.Tx, T: pays}, wire.Message{Kind: wire.Inv, Items: []wire.Item{item}}, headers(h),
		wire.Message{Kind: wire.Merkle, Block: wire.Block{Head: h, Total: 1, Hashes: []api.Hash{id}, Flags: []byte{1}}}, wire.Message{Kind: wire.Ping, Nonce: 2}, headers(on(h, 1)))
}

// P24.6
func TestPlayAndRun(t *testing.T) {
	c := config()
	l := chain(c.Genesis, 2)
	steps := []script.Step{
		{Kind: script.Connect, Peer: 1}, {Kind: script.Bytes, Peer: 1, Data: texts(t, wire.Message{Kind: wire.Version}, wire.Message{Kind: wire.Verack}, headers(l...))},
		{Kind: script.Ask, Peer: 1}, {Kind: script.Tick, N: 500}, {Kind: script.Tip}, {Kind: script.Sync}, {Kind: script.Compact}, {Kind: script.Crash}, {Kind: script.Tx}, {Kind: script.Watch, Data: []byte("x")}, {Kind: script.Tip},
	}
	one := client.New(c)
	var want []client.Out
	for _, s := range steps {
		want = append(want, one.Step(s))
	}
	x, outs := client.Play(c, steps)
	if !slices.EqualFunc(outs, want, same) || !slices.Equal(x.Heads(), one.Heads()) || outs[10].L[0] != 2 {
		t.Error("Play", outs)
	}
	if outs := client.Run(c, script.Put(steps)); !slices.EqualFunc(outs, want, same) {
		t.Error("Run", outs)
	}
	if x, outs := client.Play(c, nil); x == nil || len(outs) != 0 {
		t.Error("Play of nothing")
	}
	if len(client.Run(c, nil)) != 0 || len(client.Run(c, bytes.Repeat([]byte{5, 0, 0, 0, 0, 0}, 500))) != 400 {
		t.Error("Run of nothing, and of too much")
	}
}

// Two clients of one config know nothing of each other.
func TestApart(t *testing.T) {
	a, b := start(t, config()), start(t, config())
	a.meets(0)
	a.says(0, counts(1, 0, 0), headers(on(a.c.Genesis, 1)))
	b.tips(b.c.Genesis, 0, 1, 0, 0)
}

// Example 1, and that of the whole: with one header on it the height is 1.
func TestExample(t *testing.T) {
	r := start(t, config())
	r.tips(r.c.Genesis, 0, 1, 0, 0)
	r.meets(0)
	h := on(r.c.Genesis, 1)
	r.says(0, counts(1, 0, 0), headers(h))
	r.tips(h, 1, 2, 0, 0)
}
