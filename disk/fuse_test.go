package disk_test

import (
	"testing"

	"muniment/api"
	"muniment/disk"
)

// P6.1: SetFuse and Down.

func TestNoFuseAtFirst(t *testing.T) {
	wantNoFuse(t, disk.New(1))
	wantNoFuse(t, disk.New(65536))
}

func TestFuses(t *testing.T) {
	for n := range 20 {
		d := disk.New(2)
		d.SetFuse(n)
		wantFuse(t, d, n)
	}
}

// Of writes alone, and of syncs alone.
func TestFuseOfOneKind(t *testing.T) {
	for n := range 10 {
		d := disk.New(1)
		d.SetFuse(n)
		for i := range n {
			wantWrite(t, d, 0, sectorOf(byte(i)), api.OK)
		}
		wantDown(t, d, false)
		wantWrite(t, d, 0, sectorOf(99), api.ErrLost)
		wantLost(t, d)
		wantPending(t, d, n)
		wantActs(t, d, 0, int64(n), 0)

		d = disk.New(1)
		d.SetFuse(n)
		for range n {
			wantSync(t, d, api.OK)
		}
		wantDown(t, d, false)
		wantSync(t, d, api.ErrLost)
		wantLost(t, d)
		wantActs(t, d, 0, 0, int64(n))
	}
}

// A sync that the fuse refuses makes nothing last.
func TestFuseRefusesSync(t *testing.T) {
	d := disk.New(2)
	wantWrite(t, d, 0, sectorOf(1), api.OK)
	d.SetFuse(1)
	wantWrite(t, d, 1, sectorOf(2), api.OK)
	wantDown(t, d, false)
	wantSync(t, d, api.ErrLost)
	wantLost(t, d)
	wantPending(t, d, 2)
	wantActs(t, d, 0, 2, 0)
	wantSectors(t, d.Cut([]bool{false}), blank(), blank())
	wantSectors(t, d.Cut(nil), sectorOf(1), sectorOf(2))
}

// A write that the fuse refuses is nowhere.
func TestFuseRefusesWrite(t *testing.T) {
	d := disk.New(2)
	d.SetFuse(2)
	wantWrite(t, d, 0, sectorOf(1), api.OK)
	wantSync(t, d, api.OK)
	wantWrite(t, d, 0, sectorOf(2), api.ErrLost)
	wantLost(t, d)
	wantPending(t, d, 0)
	wantActs(t, d, 0, 1, 1)
	wantSectors(t, d.Cut(nil), sectorOf(1), blank())
}

func TestFuseBelowNone(t *testing.T) {
	for _, n := range []int{-1, -2, -300, -1 << 31, -1 << 32, -1 << 63} {
		d := disk.New(1)
		d.SetFuse(n)
		wantNoFuse(t, d)
		d.SetFuse(0)
		d.SetFuse(n)
		wantNoFuse(t, d)
		d.SetFuse(2)
		wantWrite(t, d, 0, sectorOf(1), api.OK)
		d.SetFuse(n)
		wantNoFuse(t, d)
	}
}

func TestGreatFuses(t *testing.T) {
	for _, n := range []int{601, 1 << 31, 1 << 32, 1<<63 - 1} {
		d := disk.New(1)
		d.SetFuse(n)
		wantNoFuse(t, d)
	}
}

// The last one that was set counts, from there on, however many acts were done.
func TestFuseSetAnew(t *testing.T) {
	for before := range 4 {
		for done := range before + 1 {
			for after := range 4 {
				d := disk.New(2)
				d.SetFuse(before)
				for range done {
					wantWrite(t, d, 1, sectorOf(1), api.OK)
				}
				d.SetFuse(after)
				wantFuse(t, d, after)
			}
		}
	}
	d := disk.New(2)
	for range 5 {
		wantWrite(t, d, 1, sectorOf(1), api.OK)
	}
	d.SetFuse(3)
	d.SetFuse(3)
	wantFuse(t, d, 3)
}

// A fuse that is used up is nothing till an act is tried.
func TestFuseUsedUp(t *testing.T) {
	for _, n := range []int{0, 1, 3} {
		d := disk.New(2)
		d.SetFuse(n)
		for range n {
			wantWrite(t, d, 1, sectorOf(5), api.OK)
		}
		wantDown(t, d, false)
		want := blank()
		if n > 0 {
			want = sectorOf(5)
		}
		for range 5 {
			wantSectors(t, d, blank(), want)
		}
		wantSectors(t, d.Cut(nil), blank(), want)
		wantPending(t, d, n)
		wantSize(t, d, 2)
		wantDown(t, d, false)
		d.SetFuse(-1)
		wantNoFuse(t, d)
	}
}

func TestReadsSpendNoFuse(t *testing.T) {
	d := disk.New(1)
	d.SetFuse(2)
	for range 10 {
		wantRead(t, d, 0, blank())
		d.Size()
		d.Down()
		d.Pending()
		d.Acts()
		d.Cut(nil)
	}
	wantFuse(t, d, 2)
}

// ErrArg goes ahead of a fuse that is used up, and what is refused so is no act: the fuse stays.
func TestWrongSpendsNoFuse(t *testing.T) {
	for n := range 4 {
		d := disk.New(2)
		d.SetFuse(n)
		for _, far := range farSectors(2) {
			wantReadError(t, d, far, api.ErrArg)
			wantWrite(t, d, far, sectorOf(9), api.ErrArg)
		}
		for _, b := range wrongBytes() {
			wantWrite(t, d, 0, b, api.ErrArg)
			wantWrite(t, d, 2, b, api.ErrArg)
		}
		wantDown(t, d, false)
		wantFuse(t, d, n)
	}
}

// A disk that is down stays so, whatever fuse is laid on it; wantLost tries wrong sectors and bytes too, and ErrLost goes ahead.
func TestFuseOnDiskDown(t *testing.T) {
	d := disk.New(2)
	wantWrite(t, d, 0, sectorOf(1), api.OK)
	d.SetFuse(0)
	wantSync(t, d, api.ErrLost)
	for _, n := range []int{-1, 0, 1, 5, -1 << 63, 1<<63 - 1} {
		d.SetFuse(n)
		wantLost(t, d)
		wantSize(t, d, 2)
		wantPending(t, d, 1)
		wantActs(t, d, 0, 1, 0)
	}
	wantSectors(t, d.Cut(nil), sectorOf(1), blank())
}
