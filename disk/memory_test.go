package disk_test

import (
	"testing"

	"muniment/api"
	"muniment/disk"
)

// R5: what is handed in is left as it is, its spare room too, and isn't kept; what is answered is new memory. R7: no disk hangs on another.

// withRoom are b's bytes with spare room, in which something stands.
func withRoom(b []byte) []byte {
	all := append(append([]byte{}, b...), sectorOf(200)...)
	return all[:len(b)]
}

// whole are b's bytes, and those in its spare room.
func whole(b []byte) string {
	return string(b[:cap(b)])
}

func spoil(b []byte) {
	b = b[:cap(b)]
	for i := range b {
		b[i] = 77
	}
}

func TestMemoryOfWrite(t *testing.T) {
	for _, synced := range []bool{false, true} {
		d := disk.New(2)
		b := withRoom(sectorOf(1))
		before := whole(b)
		wantWrite(t, d, 0, b, api.OK)
		if synced {
			wantSync(t, d, api.OK)
		}
		wantRead(t, d, 0, sectorOf(1))
		if whole(b) != before {
			t.Error("Write: the bytes have changed")
		}
		spoil(b)
		wantRead(t, d, 0, sectorOf(1))
		wantSectors(t, d.Cut(nil), sectorOf(1), blank())
		wantSync(t, d, api.OK)
		wantSectors(t, d.Cut(nil), sectorOf(1), blank())
		wantSectors(t, d, sectorOf(1), blank())
	}
}

// One list, written twice, is two writes.
func TestMemoryOfWriteAgain(t *testing.T) {
	d := disk.New(3)
	b := withRoom(sectorOf(1))
	wantWrite(t, d, 0, b, api.OK)
	copy(b, sectorOf(2))
	wantWrite(t, d, 1, b, api.OK)
	copy(b, sectorOf(3))
	wantWrite(t, d, 0, b, api.OK)
	spoil(b)
	wantSectors(t, d, sectorOf(3), sectorOf(2), blank())
	wantSectors(t, d.Cut([]bool{true, true, false}), sectorOf(1), sectorOf(2), blank())
	wantSectors(t, d.Cut([]bool{false, false, true}), sectorOf(3), blank(), blank())
}

func TestMemoryOfWriteRefused(t *testing.T) {
	down := disk.New(2)
	down.SetFuse(0)
	down.Sync()
	fused := disk.New(2)
	fused.SetFuse(0)
	for _, d := range []*disk.Disk{nil, down, fused, disk.New(0), disk.New(2)} {
		for _, b := range append(wrongBytes(), sectorOf(1)) {
			for _, n := range []int{-1, 0, 2} {
				b := withRoom(b)
				before := whole(b)
				d.Write(n, b)
				if whole(b) != before {
					t.Errorf("Write(%d, %s): the bytes have changed", n, told(b))
				}
			}
		}
	}
}

func TestMemoryOfRead(t *testing.T) {
	d := disk.New(3)
	wantWrite(t, d, 0, sectorOf(1), api.OK)
	wantSync(t, d, api.OK)
	wantWrite(t, d, 1, sectorOf(2), api.OK)
	for range 2 {
		for n := range 3 {
			a, _ := d.Read(n)
			b, _ := d.Read(n)
			before := string(b)
			spoil(a)
			if string(b) != before {
				t.Errorf("Read(%d): two answers share memory", n)
			}
			spoil(b)
			_ = append(b, 5)
		}
		wantSectors(t, d, sectorOf(1), sectorOf(2), blank())
		wantSectors(t, d.Cut(nil), sectorOf(1), sectorOf(2), blank())
		wantSync(t, d, api.OK)
	}
}

// What was read stays as it was.
func TestReadStays(t *testing.T) {
	d := disk.New(2)
	wantWrite(t, d, 0, sectorOf(1), api.OK)
	pending, _ := d.Read(0)
	wantSync(t, d, api.OK)
	lasting, _ := d.Read(0)
	first, _ := d.Read(1)
	wantWrite(t, d, 0, sectorOf(2), api.OK)
	wantWrite(t, d, 1, sectorOf(3), api.OK)
	wantSync(t, d, api.OK)
	wantWrite(t, d, 0, sectorOf(4), api.OK)
	if string(pending) != string(sectorOf(1)) || string(lasting) != string(sectorOf(1)) || string(first) != string(blank()) {
		t.Errorf("what was read has changed: %s, %s, %s", told(pending), told(lasting), told(first))
	}
}

func TestMemoryOfKeep(t *testing.T) {
	for _, d := range []*disk.Disk{nil, disk.New(0), disk.New(3), fiveWrites(t)} {
		for length := range 7 {
			for _, keep := range allKeeps(length) {
				keep := append(append([]bool{}, keep...), true, false, true)
				before := append([]bool{}, keep...)
				d.Cut(keep[:length])
				for i := range keep {
					if keep[i] != before[i] {
						t.Fatalf("Cut(%v): the list, or its spare room, has changed", before[:length])
					}
				}
			}
		}
	}
	d := fiveWrites(t)
	keep := []bool{true, false}
	cut := d.Cut(keep)
	keep[0], keep[1] = false, true
	wantSectors(t, cut, sectorOf(3), sectorOf(5), blank())
	wantFiveWrites(t, d)
}

// What is done to a cut, or to the disk that it was cut from, is nothing to the other.
func TestMemoryOfCut(t *testing.T) {
	for _, keep := range [][]bool{nil, {true}, {false}, {true, false}} {
		d := fiveWrites(t)
		want := fiveWrites(t).Cut(keep)
		cut := d.Cut(keep)
		other := d.Cut(keep)
		wantAlike := func(c *disk.Disk) {
			t.Helper()
			for n := range 3 {
				b, _ := want.Read(n)
				wantRead(t, c, n, b)
			}
		}
		for n := range 3 {
			b, _ := cut.Read(n)
			spoil(b)
			wantWrite(t, cut, n, sectorOf(50), api.OK)
		}
		wantSync(t, cut, api.OK)
		cut.SetFuse(0)
		wantSync(t, cut, api.ErrLost)
		wantFiveWrites(t, d)
		wantAlike(other)

		for n := range 3 {
			b, _ := d.Read(n)
			spoil(b)
			wantWrite(t, d, n, sectorOf(60), api.OK)
		}
		wantSync(t, d, api.OK)
		d.SetFuse(0)
		wantSync(t, d, api.ErrLost)
		wantAlike(other)
		wantDown(t, other, false)
		wantPending(t, other, 0)
		wantNoFuse(t, other)
	}
}

func TestDisksByThemselves(t *testing.T) {
	a, b := disk.New(2), disk.New(2)
	wantWrite(t, a, 0, sectorOf(1), api.OK)
	wantSectors(t, b, blank(), blank())
	wantSync(t, a, api.OK)
	wantWrite(t, b, 1, sectorOf(2), api.OK)
	wantSectors(t, a, sectorOf(1), blank())
	wantActs(t, a, 2, 1, 1)
	wantActs(t, b, 2, 1, 0)
	wantPending(t, a, 0)
	wantPending(t, b, 1)
	a.SetFuse(0)
	wantSync(t, b, api.OK)
	wantSync(t, a, api.ErrLost)
	wantDown(t, b, false)
	wantNoFuse(t, disk.New(2))
	wantNoFuse(t, b)
}
