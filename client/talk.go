package client

import (
	"florin/api"
	"florin/fork"
	"florin/peer"
	"florin/script"
	"florin/watch"
	"florin/wire"
)

// A talk is what comes of the bytes of one peer, as far as they were handled.
type talk struct {
	x           *Client
	at          int
	p           peer.Peer
	out         Out
	seen, noted int
}

func (x *Client) bytes(s script.Step) Out {
	p, there := x.Peer(s.Peer)
	if !there {
		return Out{E: api.ErrState}
	}
	before := x.t.Len()
	fed, messages, e := peer.Feed(p, s.Data)
	// Of what Feed told only the rest is taken: the messages ahead of an error come from a peer that was not banned yet.
	p.Buf = fed.Buf
	t := talk{x: x, at: s.Peer, p: p}
	for _, m := range messages {
		if t.p.Stage == peer.Banned {
			break
		}
		t.handle(m)
	}
	if e != api.OK {
		// Whatever the error is: Judge bans for this one.
		t.p = peer.Judge(t.p, api.ErrForm)
		t.fault(e)
	}
	x.seats[s.Peer].p = t.p
	t.out.L = []int{x.t.Len() - before, t.seen, t.noted}
	return t.out
}

// fault tells an error, if none was told ahead of it.
func (t *talk) fault(e api.Errno) {
	if t.out.E == api.OK {
		t.out.E = e
	}
}

func (t *talk) send(m wire.Message) {
	if b, e := peer.Send(t.p, m); e == api.OK {
		t.out.Sent = append(t.out.Sent, Sent{t.at, b})
	}
}

// judge bans for an error, if it is one to ban for; it tells whether it did.
func (t *talk) judge(e api.Errno) bool {
	t.p = peer.Judge(t.p, e)
	if t.p.Stage != peer.Banned {
		return false
	}
	t.fault(e)
	return true
}

func (t *talk) handle(m wire.Message) {
	p, replies, e := peer.Handle(t.p, m)
	t.p = p
	for _, reply := range replies {
		t.send(reply)
	}
	if e != api.OK {
		t.fault(e)
		return
	}
	switch m.Kind {
	case wire.Headers:
		t.takeHeaders(m.Heads)
	case wire.Merkle:
		w, seen, e := watch.Prove(t.x.watched, t.x.t, m.Block)
		t.x.watched = w
		t.seen += seen
		t.judge(e)
	case wire.Tx:
		w, noted := watch.Note(t.x.watched, m.T)
		t.x.watched = w
		if noted {
			t.noted++
		}
	case wire.Inv:
		t.askFor(m.Items)
	case wire.GetHeaders:
		heads := fork.After(t.x.t, t.x.best(), m.Locator, m.Stop, api.MaxHeaders)
		t.send(wire.Message{Kind: wire.Headers, Heads: heads})
	}
}

func (t *talk) takeHeaders(l []api.Header) {
	for _, h := range l {
		if t.judge(t.x.deliver(h, t.x.now)) {
			return
		}
	}
}

// askFor asks for what there is, as far as it is of a kind that is known.
func (t *talk) askFor(l []wire.Item) {
	var items []wire.Item
	for _, item := range l {
		if item.Type >= 1 && item.Type <= 3 {
			items = append(items, item)
		}
	}
	if len(items) > 0 {
		t.send(wire.Message{Kind: wire.GetData, Items: items})
	}
}
