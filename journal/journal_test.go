package journal_test

import (
	"bytes"
	"crypto/sha256"
	"encoding/binary"
	"math"
	"math/rand"
	"slices"
	"testing"

	"florin/api"
	"florin/disk"
	"florin/header"
	"florin/journal"
)

func sameDisk(a, b disk.Disk) bool {
	return bytes.Equal(a.Base, b.Base) && slices.EqualFunc(a.Pending, b.Pending, func(x, y disk.Write) bool {
		return x.At == y.At && bytes.Equal(x.Data, y.Data)
	})
}

func same(a, b journal.Log) bool {
	return sameDisk(a.D, b.D) && a.Base == b.Base && a.Room == b.Room && a.N == b.N && a.Last == b.Last
}

func head(n int) api.Header { return api.Header{Version: uint32(n), Root: api.Hash{3}, Nonce: 7} }

func heads(n int) []api.Header {
	var l []api.Header
	for i := 0; i < n; i++ {
		l = append(l, head(i))
	}
	return l
}

// record are a record's bytes, as the chapter tells them.
func record(last api.Hash, seq int, h api.Header) ([]byte, api.Hash) {
	b := binary.LittleEndian.AppendUint32(nil, uint32(seq+1))
	b = append(append(b, header.Put(h)...), make([]byte, 12)...)
	once := sha256.Sum256(slices.Concat(last[:], b))
	sum := sha256.Sum256(once[:])
	return append(b, sum[:]...), sum
}

// row are the bytes of records one behind the other, and the last one's sum.
func row(l []api.Header) ([]byte, api.Hash) {
	var all []byte
	var last api.Hash
	for i, h := range l {
		var b []byte
		b, last = record(last, i, h)
		all = append(all, b...)
	}
	return all, last
}

// on is a disk of so many sectors on which bytes lie from a sector on.
func on(sectors, base int, b []byte) disk.Disk {
	d := disk.New(sectors)
	copy(d.Base[32*base:], b)
	return d
}

// P19.1
func TestRecord(t *testing.T) {
	if journal.Size != 4 {
		t.Error("Size")
	}
	r := rand.New(rand.NewSource(1))
	for _, seq := range []int{0, 1, 2, 255, 256, 1 << 20, 0x01020304, math.MaxUint32 - 1, math.MaxUint32, math.MaxUint32 + 1, math.MaxInt, -1, -2, math.MinInt} {
		var last api.Hash
		r.Read(last[:])
		h := head(seq)
		want, sum := record(last, seq, h)
		got := journal.Record(last, seq, h)
		if !bytes.Equal(got, want) || len(got) != 128 {
			t.Fatal("Record", seq)
		}
		if g, s, ok := journal.Take(last, seq, got); g != h || s != sum || !ok {
			t.Fatal("Take", seq, ok)
		}
		for i := range got {
			bad := bytes.Clone(got)
			bad[i] ^= 1 << r.Intn(8)
			if g, s, ok := journal.Take(last, seq, bad); ok || g != (api.Header{}) || s != (api.Hash{}) {
				t.Fatal("Take of a changed byte", i)
			}
		}
		other := last
		other[31]++
		for k, ok := range []bool{
			third(journal.Take(other, seq, got)), third(journal.Take(last, seq+1, got)), third(journal.Take(last, seq, got[:127])),
			third(journal.Take(last, seq, append(got, 0))), third(journal.Take(last, seq, nil)), third(journal.Take(last, seq, make([]byte, 128))),
		} {
			if ok {
				t.Fatal("Take", k)
			}
		}
	}
	// Twelve bytes of 0 must stand there, whatever the sum is.
	b := append(binary.LittleEndian.AppendUint32(nil, 1), header.Put(head(1))...)
	b = append(b, 0, 0, 0, 0, 0, 0, 0, 0, 0, 0, 0, 1)
	once := sha256.Sum256(slices.Concat(make([]byte, 32), b))
	sum := sha256.Sum256(once[:])
	if third(journal.Take(api.Hash{}, 0, append(b, sum[:]...))) {
		t.Error("Take of a record with other bytes than 0")
	}
}

func third(_ api.Header, _ api.Hash, ok bool) bool { return ok }

// insane is a disk that may not be; its base is long enough for some records.
func insane() disk.Disk {
	b, _ := row(heads(2))
	return disk.Disk{Base: append(b, 1)}
}

func opens(t *testing.T, d disk.Disk, base, room int, want []api.Header) {
	t.Helper()
	l, got := journal.Open(d, base, room)
	_, last := row(want)
	if !slices.Equal(got, want) || !same(l, journal.Log{D: d, Base: base, Room: room, N: len(want), Last: last}) {
		t.Errorf("Open(%d, %d): %d records, want %d", base, room, len(got), len(want))
	}
	if !journal.Sane(l) {
		t.Error("what was opened is not sane")
	}
}

// P19.2
func TestOpen(t *testing.T) {
	l := heads(5)
	b, _ := row(l)
	opens(t, on(20, 0, b), 0, 5, l)
	opens(t, on(23, 3, b), 3, 5, l)
	opens(t, on(23, 3, b), 3, 1000, l)
	opens(t, on(23, 3, b), 3, math.MaxInt, l)
	opens(t, on(23, 3, b), 3, 3, l[:3])
	opens(t, on(23, 3, b), 3, 0, nil)
	opens(t, on(23, 3, b), 3, -1, nil)
	opens(t, on(23, 3, b), 3, math.MinInt, nil)
	opens(t, on(22, 3, b[:19*32]), 3, 5, l[:4])
	opens(t, on(23, 3, b), 2, 5, nil)
	opens(t, on(23, 3, b), 7, 5, nil)
	for _, base := range []int{-1, -4, 23, 24, math.MinInt, math.MaxInt, math.MaxInt / 32, 1 << 59, 1 << 60} {
		opens(t, on(23, 3, b), base, 5, nil)
	}
	opens(t, insane(), 0, 5, nil)
	opens(t, disk.Disk{}, 0, 5, nil)
	spoilt := bytes.Clone(b)
	spoilt[2*128+50]++
	opens(t, on(20, 0, spoilt), 0, 5, l[:2])
	apart := slices.Concat(b[:128], make([]byte, 128), b[256:])
	opens(t, on(20, 0, apart), 0, 5, l[:1])
	again := slices.Concat(b[:128], b[:128])
	opens(t, on(20, 0, again), 0, 5, l[:1])
	pending, _ := disk.Lay(disk.New(20), 0, b)
	opens(t, pending, 0, 5, l)
	over, _ := disk.Put(on(20, 0, b), 4, make([]byte, 32))
	opens(t, over, 0, 5, l[:1])
}

// P19.2: 1024 records at most.
func TestMost(t *testing.T) {
	l := heads(1024)
	b, last := row(l)
	opens(t, on(4096, 0, b), 0, 5000, l)
	full := journal.Log{D: on(4096, 0, b), Room: 5000, N: 1024, Last: last}
	if got, e := journal.Append(full, head(9)); e != api.ErrFull || !same(got, full) {
		t.Error("Append", e)
	}
	// There is room for more on the disk, but none is laid with 0 there, as none is of the log.
	if got := journal.Clear(journal.Log{D: on(4096, 0, nil), Room: 5000}); len(got.D.Pending) != 4096 {
		t.Error("Clear", len(got.D.Pending))
	}
}

// P19.2
func TestSane(t *testing.T) {
	l := heads(3)
	b, last := row(l)
	_, before := row(l[:2])
	d := on(16, 0, b)
	for k, x := range []struct {
		l    journal.Log
		want bool
	}{
		{journal.Log{D: d, Room: 4, N: 3, Last: last}, true},
		{journal.Log{D: d, Room: 4, N: 2, Last: before}, false},
		{journal.Log{D: d, Room: 4, N: 3, Last: before}, false},
		{journal.Log{D: d, Room: 4, N: 2, Last: last}, false},
		{journal.Log{D: d, Room: 2, N: 2, Last: before}, true},
		{journal.Log{D: d, Room: 4, N: -1}, false},
		{journal.Log{D: d, Room: 4, N: math.MaxInt, Last: last}, false},
		{journal.Log{D: d, Room: 4}, false},
		{journal.Log{D: d, Base: 1, Room: 4}, true},
		{journal.Log{D: d, Base: -1, Room: -4}, true},
		{journal.Log{D: insane(), Room: 4}, true},
		{journal.Log{D: insane(), Room: 4, N: 1}, false},
		{journal.Log{}, true},
	} {
		if journal.Sane(x.l) != x.want {
			t.Error("Sane", k)
		}
		lies, _ := journal.Open(x.l.D, x.l.Base, x.l.Room)
		a, ea := journal.Append(x.l, head(3))
		c, ec := journal.Append(lies, head(3))
		if !same(a, c) || ea != ec || !same(journal.Sync(x.l), journal.Sync(lies)) || !same(journal.Clear(x.l), journal.Clear(lies)) {
			t.Error("one that is not sane is not as what lies there", k)
		}
	}
}

// P19.3
func TestAppend(t *testing.T) {
	l, _ := journal.Open(disk.New(23), 3, 5)
	want := heads(5)
	for i, h := range want {
		_, last := row(want[:i+1])
		b, _ := row(want[:i+1])
		next, e := journal.Append(l, h)
		if e != api.OK || next.N != i+1 || next.Last != last || next.Base != 3 || next.Room != 5 {
			t.Fatal("Append", i, e, next.N)
		}
		if !bytes.Equal(disk.Bytes(next.D), on(23, 3, b).Base) || len(next.D.Pending) != 4*(i+1) || !bytes.Equal(next.D.Base, make([]byte, 23*32)) {
			t.Fatal("Append lays other bytes", i)
		}
		opens(t, next.D, 3, 5, want[:i+1])
		l = next
	}
	if got, e := journal.Append(l, head(9)); e != api.ErrFull || !same(got, l) {
		t.Error("Append to a full one", e)
	}
	for k, x := range []struct {
		l journal.Log
		e api.Errno
	}{
		{journal.Log{D: disk.New(3), Room: 5}, api.ErrDisk}, {journal.Log{D: disk.New(8), Base: 5, Room: 5}, api.ErrDisk}, {journal.Log{D: disk.New(8), Base: -1, Room: 5}, api.ErrDisk},
		{journal.Log{D: disk.New(8), Base: math.MaxInt, Room: 5}, api.ErrDisk}, {journal.Log{D: disk.New(8), Base: math.MinInt, Room: 5}, api.ErrDisk}, {journal.Log{D: insane(), Room: 5}, api.ErrDisk},
		{journal.Log{D: disk.New(8)}, api.ErrFull}, {journal.Log{D: disk.New(8), Room: -1}, api.ErrFull}, {journal.Log{D: insane(), Room: -5}, api.ErrFull}, {journal.Log{D: disk.New(3), Base: 77}, api.ErrFull},
	} {
		if got, e := journal.Append(x.l, head(1)); e != x.e || !same(got, x.l) {
			t.Error("Append", k, e)
		}
	}
}

// A log that goes on in two ways keeps both apart.
func TestAppendTwice(t *testing.T) {
	l, _ := journal.Open(disk.New(12), 0, 3)
	l, _ = journal.Append(l, head(0))
	a, _ := journal.Append(l, head(1))
	b, _ := journal.Append(l, head(2))
	opens(t, a.D, 0, 3, []api.Header{head(0), head(1)})
	opens(t, b.D, 0, 3, []api.Header{head(0), head(2)})
	opens(t, l.D, 0, 3, []api.Header{head(0)})
}

// P19.4
func TestSync(t *testing.T) {
	l, _ := journal.Open(disk.New(12), 0, 3)
	l, _ = journal.Append(l, head(0))
	got := journal.Sync(l)
	want := l
	want.D = disk.Sync(l.D)
	if !same(got, want) || len(got.D.Pending) != 0 {
		t.Error("Sync")
	}
	bad := journal.Log{D: insane(), Base: 2, Room: 7}
	want = bad
	want.D = disk.New(0)
	if got := journal.Sync(bad); !same(got, want) {
		t.Error("Sync of a disk that is not sane")
	}
}

// cleared is what the chapter tells Clear to lay, by disk.Put alone.
func cleared(l journal.Log) journal.Log {
	l, _ = journal.Open(l.D, l.Base, l.Room)
	for at := l.Base + 4*l.N; l.Base >= 0 && at < l.Base+4*min(max(l.Room, 0), 1024) && at < len(l.D.Base)/32; at++ {
		if d, e := disk.Put(l.D, at, make([]byte, 32)); e == api.OK {
			l.D = d
		}
	}
	return l
}

// P19.4
func TestClear(t *testing.T) {
	r := rand.New(rand.NewSource(2))
	b, _ := row(heads(3))
	for _, sectors := range []int{0, 3, 4, 12, 13, 20, 30} {
		for _, base := range []int{0, 1, 3, 12, 30, 31, -1, math.MinInt, math.MaxInt, math.MaxInt - 3} {
			for _, room := range []int{0, 1, 2, 3, 4, 7, 5000, -1, math.MaxInt, math.MinInt} {
				d := disk.New(sectors)
				r.Read(d.Base)
				if base >= 0 && base < sectors {
					copy(d.Base[32*base:], b)
				}
				l, _ := journal.Open(d, base, room)
				got, want := journal.Clear(l), cleared(l)
				if !same(got, want) {
					t.Fatal("Clear", sectors, base, room, len(got.D.Pending), len(want.D.Pending))
				}
				opened, heads := journal.Reopen(d, base, room)
				synced := journal.Sync(want)
				_, wantHeads := journal.Open(d, base, room)
				if !same(opened, synced) || !slices.Equal(heads, wantHeads) {
					t.Fatal("Reopen", sectors, base, room)
				}
			}
		}
	}
	for _, room := range []int{0, 5} {
		bad := journal.Log{D: insane(), Room: room}
		if got := journal.Clear(bad); !same(got, bad) {
			t.Error("Clear of a disk that is not sane", room)
		}
		l, heads := journal.Reopen(insane(), 0, room)
		if !same(l, journal.Log{D: disk.New(0), Room: room}) || len(heads) != 0 {
			t.Error("Reopen of a disk that is not sane", room)
		}
	}
}

// P19.4: where no more writes may be pending, those behind are not laid.
func TestClearFull(t *testing.T) {
	d := disk.New(8)
	zero := disk.Write{At: 7, Data: make([]byte, 32)}
	d.Pending = slices.Repeat([]disk.Write{zero}, 99997)
	d.Base[5*32] = 9
	l := journal.Log{D: d, Room: 2}
	got := journal.Clear(l)
	if !same(got, cleared(l)) || len(got.D.Pending) != 100000 {
		t.Error("Clear", len(got.D.Pending))
	}
}

// P19.5
func TestCrash(t *testing.T) {
	r := rand.New(rand.NewSource(3))
	for k := 0; k < 300; k++ {
		// What lies there ahead of it are the records of another log: none of them may come back.
		old, _ := row(heads(6))
		d := on(24, 0, old)
		copy(d.Base, make([]byte, 32*r.Intn(5)))
		l, there := journal.Reopen(d, 0, 6)
		appended := slices.Clone(there)
		synced := len(there)
		for i := r.Intn(6); i > 0 && l.N < 6; i-- {
			h := head(100 + r.Intn(50))
			l, _ = journal.Append(l, h)
			appended = append(appended, h)
			if r.Intn(3) == 0 {
				l = journal.Sync(l)
				synced = len(appended)
			}
		}
		plan := make([]byte, r.Intn(30))
		r.Read(plan)
		for i := range plan {
			plan[i] %= 34
		}
		_, got := journal.Open(disk.Crash(l.D, plan), 0, 6)
		if len(got) < synced || len(got) > len(appended) || !slices.Equal(got, appended[:len(got)]) {
			t.Fatal("behind a crash", k, len(got), synced, len(appended))
		}
	}
}

// Example 1.
func TestExample(t *testing.T) {
	l, _ := journal.Open(disk.New(8), 0, 2)
	l, _ = journal.Append(l, head(1))
	opens(t, l.D, 0, 2, []api.Header{head(1)})
}
