package client_test

import (
	"math/rand"
	"slices"
	"testing"

	"florin/api"
	"florin/client"
	"florin/header"
	"florin/peer"
	"florin/retarget"
	"florin/rules"
	"florin/script"
	"florin/snap"
	"florin/target"
	"florin/u256"
	"florin/wire"
)

// forest is headers with the lines on which they stand, that a test makes ahead.
func forest(r *rand.Rand, c client.Config, n int) [][]api.Header {
	lines := [][]api.Header{{c.Genesis}}
	for len(lines) < n {
		line := lines[max(len(lines)-1-r.Intn(4), 0)]
		last := line[len(line)-1]
		h := api.Header{Prev: header.Id(last), Bits: retarget.Chain(c.P, line), Time: last.Time + 1 + uint32(r.Intn(40)), Version: uint32(len(lines) * 1000)}
		switch r.Intn(20) {
		case 0:
			h.Time = last.Time - uint32(min(int(last.Time), 100))
		case 1:
			h.Bits--
		}
		if h = mined(h); r.Intn(30) == 0 {
			h = unmined(h)
		}
		lines = append(lines, append(slices.Clip(line), h))
	}
	return lines
}

// may tells which headers may stand, each judged at the time of its first delivery, and the most work of one's line.
func may(c client.Config, lines [][]api.Header, first map[api.Header]int) (map[api.Header]bool, u256.U) {
	stands := map[api.Header]bool{c.Genesis: true}
	most := target.Work(c.Genesis.Bits)
	for _, line := range lines[1:] {
		h, ahead := line[len(line)-1], line[:len(line)-1]
		now, came := first[h]
		if !came || !stands[ahead[len(ahead)-1]] || rules.Check(c.P, ahead, h, now) != api.OK {
			continue
		}
		stands[h] = true
		var l []uint32
		for _, x := range line {
			l = append(l, x.Bits)
		}
		if work, _ := target.Total(l); u256.Cmp(work, most) > 0 {
			most = work
		}
	}
	return stands, most
}

// P24.7
func TestMostWork(t *testing.T) {
	r := rand.New(rand.NewSource(1))
	for k := 0; k < 40; k++ {
		c := with(func(c *client.Config) {
			c.P.Interval, c.P.Span, c.P.Future, c.P.Orphans, c.Sectors = 3, 60, 50, 1000, 4096
		})
		lines := forest(r, c, 60)
		x := start(t, c)
		now := 0
		tick := func(n int) {
			now += n
			x.Step(script.Step{Kind: script.Tick, N: n})
		}
		tick(begin)
		for i := range 16 {
			x.meets(i)
		}
		order := r.Perm(len(lines))
		if k%2 == 0 {
			slices.SortFunc(order, func(a, b int) int { return a/7 - b/7 })
		}
		first := map[api.Header]int{}
		talker := 0
		for _, i := range order {
			h := lines[i][len(lines[i])-1]
			if x.stage(talker) == peer.Banned {
				talker++
			}
			if talker == 16 {
				break
			}
			first[h] = now
			x.Step(script.Step{Kind: script.Bytes, Peer: talker, Data: text(t, headers(h))})
			tick(r.Intn(20))
		}
		stands, most := may(c, lines, first)
		tip, _ := x.Tip()
		if x.Dropped() != 0 || tip.Work != most {
			t.Fatal("the tip has not the most work", k, x.Dropped(), tip.Height)
		}
		heads := x.Heads()
		if len(heads) != len(stands) {
			t.Fatal("headers in the tree", k, len(heads), len(stands))
		}
		for _, h := range heads {
			if !stands[h] {
				t.Fatal("one that may not stand", k)
			}
		}
	}
}

// A client behind whatever happens: what was synced is there, what is written anew is there whole, and what is there had come.
func TestCrashes(t *testing.T) {
	r := rand.New(rand.NewSource(2))
	for k := 0; k < 60; k++ {
		c := with(func(c *client.Config) { c.Sectors = 4 + 8*10 })
		l := chain(c.Genesis, 12)
		x := start(t, c)
		x.meets(0)
		synced := 0
		for range 40 {
			have := len(x.Heads()) - 1
			stored := 0
			switch r.Intn(6) {
			case 0:
				x.wants(script.Step{Kind: script.Sync}, client.Out{})
				_, there := snap.Open(x.Disk())
				synced = len(there)
			case 1:
				if out := x.Step(script.Step{Kind: script.Compact}); out.E == api.OK {
					synced = have
				} else if out.E != api.ErrFull || have <= 10 {
					t.Fatal("Compact", out.E, have)
				}
			case 2:
				plan := make([]byte, r.Intn(60))
				for i := range plan {
					plan[i] = byte(r.Intn(40))
				}
				out := x.Step(script.Step{Kind: script.Crash, Data: plan})
				stored = out.L[0]
				if stored < synced || stored > have || !slices.Equal(x.Heads()[1:], l[:stored]) {
					t.Fatal("behind a crash", k, stored, synced, have)
				}
				synced = stored
				x.meets(0)
			default:
				if have < len(l) {
					x.says(0, counts(1, 0, 0), headers(l[have]))
				}
			}
		}
	}
}

// noise is a script of steps, some of which make sense.
func noise(t *testing.T, r *rand.Rand, c client.Config, lines [][]api.Header) []script.Step {
	any := func() api.Header { line := lines[r.Intn(len(lines))]; return line[len(line)-1] }
	var l []script.Step
	for range 60 {
		s := script.Step{Kind: r.Intn(12) - 1, Peer: r.Intn(4), N: r.Intn(100), Data: make([]byte, r.Intn(40))}
		r.Read(s.Data)
		if r.Intn(2) == 0 {
			s.Kind = script.Bytes
		}
		if s.Kind == script.Bytes {
			m := []wire.Message{
				{Kind: wire.Version, Nonce: 5}, {Kind: wire.Verack}, headers(any(), any()), headers(any()), {Kind: wire.Ping},
				{Kind: wire.Inv, Items: make([]wire.Item, 2)}, {Kind: wire.GetHeaders, Stop: header.Id(any())}, {Kind: wire.Merkle, Block: wire.Block{Head: any(), Total: 1}},
			}
			s.Data = text(t, m[r.Intn(len(m))])
			if r.Intn(30) == 0 {
				s.Data[r.Intn(len(s.Data))]++
			}
		}
		l = append(l, s)
	}
	return append([]script.Step{{Kind: script.Connect}, {Kind: script.Connect, Peer: 1}, {Kind: script.Tick, N: 60000}}, l...)
}

// P24.6, and P1: whatever happens the same comes of it again, and nothing panics.
func TestNoise(t *testing.T) {
	r := rand.New(rand.NewSource(3))
	for k := 0; k < 100; k++ {
		c := with(func(c *client.Config) {
			c.P.Interval, c.P.Span, c.P.Orphans, c.P.Index = 1+r.Intn(5), 4+r.Intn(100), r.Intn(5), r.Intn(20)
			c.Sectors, c.Cap, c.Wait = r.Intn(100), []int{0, 100, 100000, -1}[r.Intn(4)], r.Intn(50)-10
		})
		steps := noise(t, r, c, forest(r, c, 15))
		x, outs := client.Play(c, steps)
		y, again := client.Play(c, steps)
		if !slices.EqualFunc(outs, again, same) || !slices.Equal(x.Heads(), y.Heads()) || !sameDisk(x.Disk(), y.Disk()) || len(outs) != len(steps) {
			t.Fatal("another time another thing comes of it", k)
		}
		b := make([]byte, r.Intn(3000))
		r.Read(b)
		if outs := client.Run(c, b); len(outs) != len(script.Get(b)) {
			t.Fatal("Run", len(outs))
		}
	}
}
