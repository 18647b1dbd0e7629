package disk_test

import (
	"testing"

	"muniment/api"
	"muniment/disk"
)

// P6.3: a nil *Disk.

func wantNil(t *testing.T, d *disk.Disk) {
	t.Helper()
	wantSize(t, d, 0)
	wantReadError(t, d, 0, api.ErrLost)
	wantWrite(t, d, 0, sectorOf(1), api.ErrLost)
	wantLost(t, d)
	wantPending(t, d, 0)
	wantActs(t, d, 0, 0, 0)
}

func TestNil(t *testing.T) {
	var d *disk.Disk
	wantNil(t, d)
	for _, n := range []int{-1 << 63, -1, 0, 1, 5, 1<<63 - 1} {
		d.SetFuse(n)
		wantNil(t, d)
	}
}

// A cut of it is a disk: it isn't down, and has no fuse.
func TestCutOfNil(t *testing.T) {
	var d *disk.Disk
	for _, keep := range [][]bool{nil, {}, {true}, {false}, {false, true}} {
		cut := d.Cut(keep)
		if cut == nil {
			t.Fatalf("Cut(%v) is nil", keep)
		}
		wantSize(t, cut, 0)
		wantDown(t, cut, false)
		wantPending(t, cut, 0)
		wantActs(t, cut, 0, 0, 0)
		wantReadError(t, cut, 0, api.ErrArg)
		wantWrite(t, cut, 0, sectorOf(1), api.ErrArg)
		for range 300 {
			wantSync(t, cut, api.OK)
		}
		wantSize(t, cut.Cut(keep), 0)
	}
	wantNil(t, d)
}
