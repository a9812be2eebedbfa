package snap_test

import (
	"bytes"
	"crypto/sha256"
	"encoding/binary"
	"math"
	"math/rand"
	"slices"
	"testing"

	"florin/api"
	"florin/disk"
	"florin/journal"
	"florin/snap"
)

func sameDisk(a, b disk.Disk) bool {
	return bytes.Equal(a.Base, b.Base) && slices.EqualFunc(a.Pending, b.Pending, func(x, y disk.Write) bool {
		return x.At == y.At && bytes.Equal(x.Data, y.Data)
	})
}

func sameLog(a, b journal.Log) bool {
	return sameDisk(a.D, b.D) && a.Base == b.Base && a.Room == b.Room && a.N == b.N && a.Last == b.Last
}

func same(a, b snap.Store) bool { return sameLog(a.L, b.L) && a.Epoch == b.Epoch }

func heads(from, n int) []api.Header {
	var l []api.Header
	for i := 0; i < n; i++ {
		l = append(l, api.Header{Version: uint32(from + i), Root: api.Hash{9}})
	}
	return l
}

// super are a slot's bytes, as the chapter tells them.
func super(epoch uint32, region byte) []byte {
	b := binary.LittleEndian.AppendUint32(nil, epoch)
	b = append(append(b, region), make([]byte, 27)...)
	once := sha256.Sum256(b)
	sum := sha256.Sum256(once[:])
	return append(b, sum[:]...)
}

// with is a disk with these in its slots.
func with(sectors int, first, second []byte) disk.Disk {
	d := disk.New(sectors)
	copy(d.Base, first)
	if len(d.Base) >= 64 {
		copy(d.Base[64:], second)
	}
	return d
}

func region(r, room int) int { return 4 + r*4*room }

// P20.1 and the words.
func TestRoom(t *testing.T) {
	for sectors, want := range map[int]int{0: 0, 3: 0, 4: 0, 11: 0, 12: 1, 19: 1, 20: 2, 68: 8, 4096: 511, 8195: 1023, 8196: 1024, 8204: 1024, math.MaxInt: 1024, -1: 0, -100: 0, math.MinInt: 0} {
		if got := snap.Room(sectors); got != want {
			t.Error("Room", sectors, got)
		}
	}
}

// P20.1
func TestSuper(t *testing.T) {
	for _, x := range []struct {
		epoch, region int
		want          []byte
		ok            bool
	}{
		{1, 0, super(1, 0), true}, {1, 1, super(1, 1), true}, {0x01020304, 2, super(0x01020304, 0), true}, {7, 3, super(7, 1), true}, {7, -1, super(7, 1), true}, {7, -2, super(7, 0), true}, {7, math.MinInt, super(7, 0), true}, {7, math.MaxInt, super(7, 1), true},
		{0, 1, super(0, 1), false}, {1<<31 - 1, 0, super(1<<31-1, 0), true}, {1 << 31, 0, super(1<<31, 0), false}, {1<<32 - 1, 0, super(1<<32-1, 0), false}, {-1, 0, super(1<<32-1, 0), false}, {1<<32 + 5, 0, super(5, 0), true}, {math.MinInt, 0, super(0, 0), false},
	} {
		got := snap.Super(x.epoch, x.region)
		if !bytes.Equal(got, x.want) {
			t.Error("Super", x.epoch, x.region, got)
		}
		e, r, ok := snap.TakeSuper(got)
		if ok != x.ok || ok && (uint32(e) != uint32(x.epoch) || r != x.region&1) || !ok && (e != 0 || r != 0) {
			t.Error("TakeSuper", x.epoch, x.region, e, r, ok)
		}
	}
	good := super(5, 1)
	var wrong [][]byte
	for i := range good {
		b := bytes.Clone(good)
		b[i] ^= 4
		wrong = append(wrong, b)
	}
	wrong = append(wrong, nil, good[:63], append(bytes.Clone(good), 0), make([]byte, 64), super(5, 2), super(5, 255))
	other := append(binary.LittleEndian.AppendUint32(nil, 5), make([]byte, 28)...)
	other[31] = 1
	once := sha256.Sum256(other)
	sum := sha256.Sum256(once[:])
	wrong = append(wrong, append(other, sum[:]...))
	for k, b := range wrong {
		if e, r, ok := snap.TakeSuper(b); e != 0 || r != 0 || ok {
			t.Error("TakeSuper", k, e, r, ok)
		}
	}
}

// P20.2
func TestFind(t *testing.T) {
	insane := with(68, super(5, 1), nil)
	insane.Base = append(insane.Base, 1)
	pending, _ := disk.Lay(with(68, super(5, 1), nil), 2, super(6, 0))
	for k, x := range []struct {
		d                   disk.Disk
		epoch, region, slot int
	}{
		{disk.New(68), 0, 0, -1}, {with(68, super(5, 1), nil), 5, 1, 0}, {with(68, nil, super(5, 1)), 5, 1, 1}, {with(68, super(5, 1), super(6, 0)), 6, 0, 1}, {with(68, super(7, 1), super(6, 0)), 7, 1, 0},
		{with(68, super(5, 1), super(5, 0)), 5, 1, 0}, {with(68, super(5, 0), super(5, 1)), 5, 0, 0}, {with(68, super(0, 1), super(5, 1)), 5, 1, 1}, {with(68, super(1<<31, 1), super(5, 1)), 5, 1, 1},
		{with(4, super(5, 1), super(6, 0)), 6, 0, 1}, {with(3, super(5, 1), nil), 0, 0, -1}, {with(2, super(5, 1), nil), 0, 0, -1}, {disk.Disk{}, 0, 0, -1}, {insane, 0, 0, -1}, {pending, 6, 0, 1},
	} {
		e, r := snap.Find(x.d)
		if s := snap.Slot(x.d); e != x.epoch || r != x.region || s != x.slot {
			t.Error("Find, Slot", k, e, r, s)
		}
		store, l := snap.Open(x.d)
		room := snap.Room(len(x.d.Base) / 32)
		log, want := journal.Reopen(x.d, region(x.region, room), room)
		if !same(store, snap.Store{L: log, Epoch: x.epoch}) || !slices.Equal(l, want) {
			t.Error("Open", k)
		}
	}
}

// filled is a store with these headers, opened from a disk of so many sectors, whose slots tell an epoch and a region.
func filled(t *testing.T, sectors, epoch, reg int, l []api.Header) snap.Store {
	t.Helper()
	s, there := snap.Open(with(sectors, super(uint32(epoch), byte(reg)), nil))
	if len(there) != 0 {
		t.Fatal("there is something")
	}
	for _, h := range l {
		var e api.Errno
		if s, e = snap.Append(s, h); e != api.OK {
			t.Fatal(e)
		}
	}
	return s
}

// P20.2, P20.3
func TestAppend(t *testing.T) {
	for _, reg := range []int{0, 1} {
		s := filled(t, 68, 3, reg, heads(0, 8))
		if s.L.Base != region(reg, 8) || s.L.Room != 8 || s.L.N != 8 || s.Epoch != 3 {
			t.Error("a store of", reg, s.L.Base, s.L.Room, s.L.N, s.Epoch)
		}
		if got, e := snap.Append(s, api.Header{}); e != api.ErrFull || !same(got, s) {
			t.Error("Append to a full one", e)
		}
		synced := snap.Sync(s)
		if !same(synced, snap.Store{L: journal.Sync(s.L), Epoch: 3}) || len(synced.L.D.Pending) != 0 {
			t.Error("Sync")
		}
		again, l := snap.Open(disk.Crash(synced.L.D, nil))
		if !slices.Equal(l, heads(0, 8)) || !sameLog(again.L, synced.L) {
			t.Error("Open", len(l))
		}
		if _, l := snap.Open(disk.Crash(s.L.D, nil)); len(l) != 0 {
			t.Error("a crash ahead of the sync", len(l))
		}
	}
	lying := filled(t, 68, 3, 0, heads(0, 2))
	lying.L.N = 7
	got, e := snap.Append(lying, api.Header{Version: 9})
	want, we := journal.Append(lying.L, api.Header{Version: 9})
	if e != we || !same(got, snap.Store{L: want, Epoch: 3}) || got.L.N != 3 {
		t.Error("Append to one that is not sane", e, got.L.N)
	}
}

// stages are the disks behind the operations that the chapter tells, from the beginning on.
func stages(s snap.Store, keep []api.Header) []disk.Disk {
	d := s.L.D
	l := []disk.Disk{d}
	do := func(next disk.Disk, e api.Errno) {
		if e != api.OK {
			panic(e)
		}
		d = next
		l = append(l, d)
	}
	room := s.L.Room
	_, r := snap.Find(d)
	base := region(1-r, room)
	do(disk.Sync(d), api.OK)
	for i := 0; i < 4*room; i++ {
		do(disk.Put(d, base+i, make([]byte, 32)))
	}
	var last api.Hash
	for i, h := range keep {
		b := journal.Record(last, i, h)
		last = api.Hash(b[96:])
		do(disk.Lay(d, base+4*i, b))
	}
	do(disk.Sync(d), api.OK)
	at := 0
	if snap.Slot(d) == 0 {
		at = 2
	}
	do(disk.Lay(d, at, snap.Super(s.Epoch+1, 1-r)))
	do(disk.Sync(d), api.OK)
	return l
}

// P20.4
func TestCompact(t *testing.T) {
	for _, sectors := range []int{4, 11, 12, 20, 68, 71} {
		room := snap.Room(sectors)
		for _, epoch := range []int{0, 1, 9, 1<<31 - 2} {
			for _, reg := range []int{0, 1} {
				if epoch == 0 && reg == 1 {
					continue
				}
				s := filled(t, sectors, epoch, reg, heads(0, room/2+room%2))
				for n := 0; n <= room; n += 1 + room/3 {
					keep := heads(50, n)
					all := stages(s, keep)
					d := all[len(all)-1]
					got, e := snap.Compact(s, keep)
					_, last := journal.Open(d, region(1-reg, room), room)
					if e != api.OK || got.Epoch != epoch+1 || !sameDisk(got.L.D, d) || got.L.N != n || got.L.Base != region(1-reg, room) || got.L.Room != room || !journal.Sane(got.L) || !slices.Equal(last, keep) {
						t.Fatal("Compact", sectors, epoch, reg, n, e)
					}
					if opened, l := snap.Open(disk.Crash(got.L.D, nil)); !same(opened, got) || !slices.Equal(l, keep) {
						t.Fatal("Open", sectors, epoch, reg, n)
					}
				}
				if got, e := snap.Compact(s, heads(0, room+1)); e != api.ErrFull || !same(got, s) {
					t.Fatal("Compact of too many", sectors, e)
				}
			}
		}
	}
	// One behind the other: slots and regions take turns.
	s := filled(t, 68, 0, 0, heads(0, 3))
	for i := 1; i < 6; i++ {
		s, _ = snap.Compact(s, heads(i, i))
		epoch, reg := snap.Find(s.L.D)
		if epoch != i || reg != i%2 || snap.Slot(s.L.D) != (i+1)%2 || s.L.N != i {
			t.Error("turns", i, epoch, reg, snap.Slot(s.L.D))
		}
	}
}

// P20.4, P20.5: what may not be written anew.
func TestCompactNot(t *testing.T) {
	good := filled(t, 68, 5, 1, heads(0, 3))
	change := func(f func(s *snap.Store)) snap.Store {
		s := good
		f(&s)
		return s
	}
	insane := func(sectors int) snap.Store {
		s, _ := snap.Open(disk.New(sectors))
		s.L.D.Base = append(make([]byte, 32*sectors), 1)
		return s
	}
	small, _ := snap.Open(disk.New(3))
	lost, _ := snap.Open(disk.New(68))
	lost.L.D = disk.Disk{Base: make([]byte, 68*32), Pending: []disk.Write{{At: 99}}}
	for k, x := range []struct {
		s    snap.Store
		keep []api.Header
		want api.Errno
	}{
		{good, heads(0, 8), api.OK}, {good, heads(0, 9), api.ErrFull},
		{change(func(s *snap.Store) { s.Epoch = 4 }), nil, api.ErrState}, {change(func(s *snap.Store) { s.Epoch = 6 }), nil, api.ErrState}, {change(func(s *snap.Store) { s.Epoch = 4 }), heads(0, 9), api.ErrFull},
		{change(func(s *snap.Store) { s.Epoch = math.MinInt }), nil, api.ErrState}, {change(func(s *snap.Store) { s.Epoch = math.MaxInt }), nil, api.ErrState},
		{change(func(s *snap.Store) { s.L.Base = 4 }), nil, api.ErrState}, {change(func(s *snap.Store) { s.L.Room = 7 }), nil, api.ErrState}, {change(func(s *snap.Store) { s.L.Room = 9 }), heads(0, 9), api.ErrFull},
		{change(func(s *snap.Store) { s.L.N, s.L.Last = 8, api.Hash{1} }), heads(0, 2), api.OK},
		{filled(t, 68, 1<<31-1, 0, nil), nil, api.ErrState}, {filled(t, 68, 1<<31-2, 0, nil), nil, api.OK},
		{small, nil, api.ErrDisk}, {small, heads(0, 1), api.ErrFull}, {snap.Store{}, nil, api.ErrState}, {snap.Store{L: journal.Log{Base: 4}}, nil, api.ErrDisk},
		{insane(68), nil, api.ErrDisk}, {insane(5), nil, api.ErrDisk}, {insane(68), heads(0, 9), api.ErrFull}, {lost, heads(0, 2), api.ErrDisk},
	} {
		got, e := snap.Compact(x.s, x.keep)
		if e != x.want || e != api.OK && !same(got, x.s) {
			t.Error("Compact", k, e, x.want)
		}
		for _, n := range []int{-1, 0, 5, 1000} {
			d, e := snap.Stop(x.s, x.keep, n, []byte{1, 2})
			if e != x.want || e != api.OK && !sameDisk(d, x.s.L.D) {
				t.Error("Stop", k, n, e)
			}
		}
	}
}

// P20.5, P20.6
func TestStop(t *testing.T) {
	r := rand.New(rand.NewSource(1))
	for _, reg := range []int{0, 1} {
		for _, appended := range []int{0, 3} {
			s := filled(t, 36, 5, reg, heads(0, appended))
			old, _ := snap.Open(disk.Sync(s.L.D))
			keep := heads(50, 2)
			all := stages(s, keep)
			for n := -1; n < len(all)+2; n++ {
				for k := 0; k < 12; k++ {
					plan := make([]byte, r.Intn(40))
					r.Read(plan)
					for i := range plan {
						plan[i] = []byte{0, plan[i] % 33, 32, 255}[k%4]
					}
					at := all[min(max(n, 0), len(all)-1)]
					d, e := snap.Stop(s, keep, n, plan)
					if e != api.OK || !sameDisk(d, disk.Crash(at, plan)) {
						t.Fatal("Stop", n, e)
					}
					opened, l := snap.Open(d)
					kept := opened.Epoch == 6 && opened.L.Base == region(1-reg, 4) && slices.Equal(l, keep)
					there := opened.Epoch == 5 && opened.L.Base == old.L.Base && (slices.Equal(l, heads(0, appended)) || n <= 0 && slices.Equal(l, heads(0, len(l))))
					if !kept && !there {
						t.Fatal("what is opened was not there, nor was it to be kept", n, opened.Epoch, len(l))
					}
					if kept && n < len(all)-2 || n >= len(all)-1 && !kept {
						t.Fatal("too early, or too late", n, kept)
					}
				}
			}
			for _, n := range []int{math.MinInt, math.MaxInt} {
				want := all[0]
				if n > 0 {
					want = all[len(all)-1]
				}
				if d, e := snap.Stop(s, keep, n, nil); e != api.OK || !sameDisk(d, disk.Crash(want, nil)) {
					t.Error("Stop", n, e)
				}
			}
		}
	}
}

// Example 1.
func TestExample(t *testing.T) {
	if snap.Room(68) != 8 {
		t.Error(snap.Room(68))
	}
}
