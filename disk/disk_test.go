package disk_test

import (
	"bytes"
	"math"
	"math/rand"
	"slices"
	"testing"

	"florin/api"
	"florin/disk"
)

func same(a, b disk.Disk) bool {
	return bytes.Equal(a.Base, b.Base) && slices.EqualFunc(a.Pending, b.Pending, func(x, y disk.Write) bool {
		return x.At == y.At && bytes.Equal(x.Data, y.Data)
	})
}

func fill(x byte, n int) []byte { return bytes.Repeat([]byte{x}, n) }

func some(r *rand.Rand, n int) []byte {
	b := make([]byte, n)
	r.Read(b)
	return b
}

// used is a disk of some bytes, with some writes that are pending.
func used(r *rand.Rand, sectors, writes int) disk.Disk {
	d := disk.Disk{Base: some(r, 32*sectors)}
	for i := 0; i < writes; i++ {
		d.Pending = append(d.Pending, disk.Write{At: r.Intn(sectors), Data: some(r, 32)})
	}
	return d
}

// insane are disks that may not be.
func insane() []disk.Disk {
	good := disk.Write{At: 1, Data: fill(5, 32)}
	with := func(sectors int, w ...disk.Write) disk.Disk {
		return disk.Disk{Base: fill(1, 32*sectors), Pending: w}
	}
	return []disk.Disk{
		{Base: fill(1, 31)}, {Base: fill(1, 33)}, with(4097), {Base: fill(1, 32*4096+1)},
		with(0, disk.Write{At: 0, Data: fill(5, 32)}), with(3, good, disk.Write{At: 3, Data: fill(5, 32)}), with(3, disk.Write{At: -1, Data: fill(5, 32)}, good),
		with(3, good, disk.Write{At: 1, Data: fill(5, 31)}), with(3, good, disk.Write{At: 1, Data: fill(5, 33)}), with(3, disk.Write{At: 1}),
		with(3, disk.Write{At: math.MinInt, Data: fill(5, 32)}), with(3, disk.Write{At: math.MaxInt, Data: fill(5, 32)}),
		with(3, slices.Repeat([]disk.Write{good}, 100001)...),
	}
}

// P18.1
func TestNew(t *testing.T) {
	for _, x := range [][2]int{{0, 0}, {1, 1}, {5, 5}, {4096, 4096}, {4097, 4096}, {math.MaxInt, 4096}, {-1, 0}, {math.MinInt, 0}} {
		d := disk.New(x[0])
		if !same(d, disk.Disk{Base: make([]byte, 32*x[1])}) || !disk.Sane(d) {
			t.Error("New", x, len(d.Base))
		}
	}
}

// P18.1
func TestSane(t *testing.T) {
	r := rand.New(rand.NewSource(1))
	for _, d := range []disk.Disk{{}, used(r, 1, 0), used(r, 1, 3), used(r, 4096, 5), used(r, 3, 100000)} {
		if !disk.Sane(d) {
			t.Error("Sane", len(d.Base), len(d.Pending))
		}
	}
	none := disk.New(0)
	for k, d := range insane() {
		if disk.Sane(d) {
			t.Error("Sane", k)
		}
		if got, e := disk.Read(d, 1); len(got) != 0 || e != api.ErrDisk {
			t.Error("Read", k, e)
		}
		if got, e := disk.Put(d, 1, fill(1, 32)); !same(got, none) || e != api.ErrDisk {
			t.Error("Put", k, e)
		}
		if got, e := disk.Put(d, 1, fill(1, 31)); !same(got, none) || e != api.ErrDisk {
			t.Error("Put", k, e)
		}
		if got, e := disk.Lay(d, 1, fill(1, 64)); !same(got, none) || e != api.ErrDisk {
			t.Error("Lay", k, e)
		}
		if got, e := disk.Lay(d, 1, fill(1, 1)); !same(got, none) || e != api.ErrDisk {
			t.Error("Lay", k, e)
		}
		if got, e := disk.Lay(d, 1, nil); !same(got, none) || e != api.OK {
			t.Error("Lay of nothing", k, e)
		}
		if !same(disk.Sync(d), none) || !same(disk.Crash(d, fill(32, 9)), none) || len(disk.Bytes(d)) != 0 {
			t.Error("Sync, Crash, Bytes", k)
		}
	}
}

// written are a disk's bytes behind its first writes, of which so many bytes each are written.
func written(d disk.Disk, much func(i int) int) []byte {
	b := bytes.Clone(d.Base)
	for i, w := range d.Pending {
		copy(b[32*w.At:], w.Data[:much(i)])
	}
	return b
}

func whole(int) int { return 32 }

// P18.2, P18.3
func TestDisk(t *testing.T) {
	r := rand.New(rand.NewSource(2))
	for k := 0; k < 300; k++ {
		sectors := 1 + r.Intn(6)
		d := used(r, sectors, r.Intn(12))
		before := disk.Disk{Base: bytes.Clone(d.Base), Pending: slices.Clone(d.Pending)}
		all := written(d, whole)
		if !bytes.Equal(disk.Bytes(d), all) {
			t.Fatal("Bytes", k)
		}
		for at := 0; at < sectors; at++ {
			if got, e := disk.Read(d, at); !bytes.Equal(got, all[32*at:32*at+32]) || e != api.OK {
				t.Fatal("Read", k, at, e)
			}
		}
		for _, at := range []int{-1, sectors, sectors + 1, math.MinInt, math.MaxInt} {
			if got, e := disk.Read(d, at); len(got) != 0 || e != api.ErrDisk {
				t.Fatal("Read", k, at, e)
			}
			if got, e := disk.Put(d, at, fill(1, 32)); !same(got, d) || e != api.ErrDisk {
				t.Fatal("Put", k, at, e)
			}
		}
		for _, n := range []int{0, 1, 31, 33, 64} {
			if got, e := disk.Put(d, 0, fill(1, n)); !same(got, d) || e != api.ErrDisk {
				t.Fatal("Put of", n, e)
			}
		}
		w := disk.Write{At: r.Intn(sectors), Data: some(r, 32)}
		want := disk.Disk{Base: d.Base, Pending: append(slices.Clone(d.Pending), w)}
		if got, e := disk.Put(d, w.At, w.Data); !same(got, want) || e != api.OK {
			t.Fatal("Put", k, e)
		}
		if !same(disk.Sync(d), disk.Disk{Base: all}) {
			t.Fatal("Sync", k)
		}
		plan := some(r, r.Intn(15))
		for i := range plan {
			plan[i] %= 40
		}
		if k%10 == 0 {
			plan = fill(255, 20)
		}
		left := written(d, func(i int) int {
			if i >= len(plan) {
				return 0
			}
			return min(int(plan[i]), 32)
		})
		if !same(disk.Crash(d, plan), disk.Disk{Base: left}) {
			t.Fatal("Crash", k)
		}
		if !same(disk.Crash(d, nil), disk.Disk{Base: d.Base}) {
			t.Fatal("Crash that writes nothing", k)
		}
		if !same(d, before) {
			t.Fatal("what was handed in is changed", k)
		}
	}
}

// P18.2
func TestLay(t *testing.T) {
	r := rand.New(rand.NewSource(3))
	for k := 0; k < 300; k++ {
		sectors := 1 + r.Intn(6)
		d := used(r, sectors, r.Intn(5))
		n, at := r.Intn(8), r.Intn(8)-1
		b := some(r, 32*n)
		want, we := d, api.OK
		for i := 0; i < n && we == api.OK; i++ {
			want, we = disk.Put(want, at+i, b[32*i:32*i+32])
		}
		if we != api.OK {
			want = d
		}
		if got, e := disk.Lay(d, at, b); !same(got, want) || e != we {
			t.Fatal("Lay", sectors, at, n, e, we)
		}
		if got, e := disk.Lay(d, at, append(b, 1)); !same(got, d) || e != api.ErrDisk {
			t.Fatal("Lay of a piece of a sector", e)
		}
	}
	d := disk.New(4)
	for _, at := range []int{math.MinInt, math.MaxInt, math.MaxInt - 1, -1, 3} {
		if got, e := disk.Lay(d, at, fill(1, 64)); !same(got, d) || e != api.ErrDisk {
			t.Error("Lay", at, e)
		}
		if got, e := disk.Lay(d, at, nil); !same(got, d) || e != api.OK {
			t.Error("Lay of nothing", at, e)
		}
	}
}

// P18.2: 100000 may be pending.
func TestPendingBound(t *testing.T) {
	d := used(rand.New(rand.NewSource(4)), 3, 99998)
	two, e := disk.Lay(d, 0, fill(1, 64))
	if len(two.Pending) != 100000 || e != api.OK {
		t.Error("Lay up to the bound", len(two.Pending), e)
	}
	if got, e := disk.Lay(d, 0, fill(1, 96)); len(got.Pending) != 99998 || e != api.ErrDisk {
		t.Error("Lay above the bound", len(got.Pending), e)
	}
	if got, e := disk.Put(two, 0, fill(1, 32)); len(got.Pending) != 100000 || e != api.ErrDisk {
		t.Error("Put above the bound", len(got.Pending), e)
	}
	if got, e := disk.Lay(two, 0, nil); len(got.Pending) != 100000 || e != api.OK {
		t.Error("Lay of nothing", len(got.Pending), e)
	}
	if got := disk.Sync(two); len(got.Pending) != 0 || !bytes.Equal(got.Base[:64], fill(1, 64)) {
		t.Error("Sync", len(got.Pending))
	}
}

// A disk that goes on in two ways keeps both apart.
func TestTwice(t *testing.T) {
	d := disk.Disk{Base: make([]byte, 64), Pending: make([]disk.Write, 0, 10)}
	a, _ := disk.Put(d, 0, fill(1, 32))
	b, _ := disk.Put(d, 1, fill(2, 32))
	c, _ := disk.Put(a, 0, fill(3, 32))
	e, _ := disk.Put(a, 0, fill(4, 32))
	for k, x := range []struct {
		d    disk.Disk
		want []byte
	}{{a, append(fill(1, 32), fill(0, 32)...)}, {b, append(fill(0, 32), fill(2, 32)...)}, {c, append(fill(3, 32), fill(0, 32)...)}, {e, append(fill(4, 32), fill(0, 32)...)}, {d, fill(0, 64)}} {
		if !bytes.Equal(disk.Bytes(x.d), x.want) {
			t.Error(k, disk.Bytes(x.d))
		}
	}
	synced := disk.Sync(d)
	if more, _ := disk.Put(synced, 0, fill(9, 32)); !bytes.Equal(disk.Bytes(disk.Sync(more))[:32], fill(9, 32)) || !bytes.Equal(synced.Base, fill(0, 64)) {
		t.Error("a base is changed")
	}
}

// P18.4
func TestSynced(t *testing.T) {
	r := rand.New(rand.NewSource(5))
	for k := 0; k < 200; k++ {
		d := disk.Sync(used(r, 6, r.Intn(9)))
		safe := bytes.Clone(d.Base)
		over := map[int]bool{}
		for i := r.Intn(4); i > 0; i-- {
			at := r.Intn(6)
			over[at] = true
			d, _ = disk.Put(d, at, some(r, 32))
		}
		left := disk.Bytes(disk.Crash(d, some(r, 5)))
		for at := 0; at < 6; at++ {
			if !over[at] && !bytes.Equal(left[32*at:32*at+32], safe[32*at:32*at+32]) {
				t.Fatal("what was synced is lost", at)
			}
		}
	}
}

// Example 1.
func TestExample(t *testing.T) {
	d, _ := disk.Put(disk.New(2), 1, fill(7, 32))
	got := disk.Bytes(disk.Crash(d, []byte{3}))
	if !bytes.Equal(got, slices.Concat(fill(0, 32), fill(7, 3), fill(0, 29))) {
		t.Error(got)
	}
}
