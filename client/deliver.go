package client

import (
	"slices"

	"florin/api"
	"florin/fork"
	"florin/header"
	"florin/snap"
)

// An orphan is a header that waits for the one that it stands on, and the time when it came.
type orphan struct {
	head api.Header
	came int
}

// deliver judges a header at a time, and those that wait for it at theirs.
func (x *Client) deliver(h api.Header, when int) api.Errno {
	e := x.accept(h, when)
	if e == api.OK {
		x.deliverWaiting(h)
	}
	return e
}

// accept takes a header into the tree, or wherever else its error leads it.
func (x *Client) accept(h api.Header, when int) api.Errno {
	_, e := fork.Accept(x.c.P, x.t, h, when)
	switch e {
	case api.OK:
		x.keep(h)
	case api.ErrOrphan:
		x.wait(orphan{h, when})
	case api.ErrFull:
		x.dropped++
	}
	return e
}

func (x *Client) keep(h api.Header) {
	store, e := snap.Append(x.store, h)
	if e != api.OK {
		x.dropped++
		return
	}
	x.store = store
}

func (x *Client) wait(o orphan) {
	isIt := func(other orphan) bool { return other.head == o.head }
	if slices.ContainsFunc(x.orphans, isIt) {
		return
	}
	if len(x.orphans) >= x.c.P.Orphans {
		x.dropped++
		return
	}
	x.orphans = append(x.orphans, o)
}

// deliverWaiting delivers the orphans of a header that came; those of each of these have to wait until its turn is.
func (x *Client) deliverWaiting(h api.Header) {
	came := []api.Header{h}
	for len(came) > 0 {
		id := header.Id(came[0])
		came = came[1:]
		for _, o := range x.leaving(id) {
			if x.accept(o.head, o.came) == api.OK {
				came = append(came, o.head)
			}
		}
	}
}

// leaving are the orphans of an id, that leave the others.
func (x *Client) leaving(id api.Hash) []orphan {
	var leave, stay []orphan
	for _, o := range x.orphans {
		if o.head.Prev == id {
			leave = append(leave, o)
		} else {
			stay = append(stay, o)
		}
	}
	x.orphans = stay
	return leave
}
