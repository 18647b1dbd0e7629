package journal_test

import (
	"testing"

	"muniment/api"
	"muniment/disk"
)

// P7.2: a journal that is over.

// A fuse that is used up at each part of a record: those ahead of it are written, and take room.
func TestOverByAppend(t *testing.T) {
	for _, n := range []int{1, 234, 235, 700, 8000} {
		parts := (n + 233) / 234
		for written := range parts + 1 {
			d := disk.New(50)
			j := newJournal(t, d, 3, 40, 8)
			first, b := recordOf(240, 1), recordOf(n, 2)
			wantAppend(t, j, first, api.OK)
			d.SetFuse(written)
			if written == parts {
				wantAppend(t, j, b, api.OK)
				wantRoom(t, j, 38-parts, 2)
				wantScan(t, d, 3, 40, 8, first, b)
				wantAppend(t, j, recordOf(1, 3), api.ErrLost)
				wantOver(t, j, 38-parts, 2)
				continue
			}
			wantAppend(t, j, b, api.ErrLost)
			wantOver(t, j, 38-written, 1)
			wantActs(t, d, 0, int64(2+written), 0)
			wantScanError(t, d, 3, 40, api.ErrLost)
			c := d.Cut(nil)
			wantScan(t, c, 3, 40, 8, first)
			sectors := sectorsOf(8, first, b)
			wantSectors(t, c, 3, sectors[:2+written]...)
			wantSectors(t, c, 3+2+written, blank(), blank())
		}
	}
}

func TestOverBySync(t *testing.T) {
	for _, records := range [][][]byte{nil, {recordOf(1, 1)}, {recordOf(300, 1), recordOf(2, 2)}} {
		d := disk.New(10)
		j := newJournal(t, d, 0, 10, 1)
		for _, b := range records {
			wantAppend(t, j, b, api.OK)
		}
		used := len(sectorsOf(1, records...))
		d.SetFuse(1)
		wantSync(t, j, api.OK)
		wantRoom(t, j, 10-used, len(records))
		wantSync(t, j, api.ErrLost)
		wantOver(t, j, 10-used, len(records))
		wantScan(t, d.Cut([]bool{false}), 0, 10, 1, records...)
	}
}

// The fuse is used up at the Sync behind an append.
func TestOverBySyncOfRecord(t *testing.T) {
	d := disk.New(10)
	j := newJournal(t, d, 0, 10, 1)
	d.SetFuse(3)
	wantAppend(t, j, recordOf(600, 1), api.OK)
	wantSync(t, j, api.ErrLost)
	wantOver(t, j, 7, 1)
	wantScan(t, d.Cut(nil), 0, 10, 1, recordOf(600, 1))
	wantScan(t, d.Cut([]bool{false}), 0, 10, 1)
}

// The disk went down by another hand.
func TestOverByDiskDown(t *testing.T) {
	for _, bySync := range []bool{false, true} {
		d := disk.New(10)
		j := newJournal(t, d, 0, 3, 1)
		wantAppend(t, j, recordOf(2, 1), api.OK)
		d.SetFuse(0)
		d.Write(9, blank())
		wantRoom(t, j, 2, 1)
		wantAppend(t, j, nil, api.ErrArg)
		wantAppend(t, j, recordOf(8001, 1), api.ErrLong)
		wantAppend(t, j, recordOf(469, 1), api.ErrFull)
		if bySync {
			wantSync(t, j, api.ErrLost)
		} else {
			wantAppend(t, j, recordOf(235, 1), api.ErrLost)
		}
		wantOver(t, j, 2, 1)
	}
}

// A journal that is over stays so, though its fuse is taken away.
func TestOverStays(t *testing.T) {
	d := disk.New(10)
	j := newJournal(t, d, 0, 10, 1)
	d.SetFuse(1)
	wantAppend(t, j, recordOf(300, 1), api.ErrLost)
	d.SetFuse(-1)
	wantOver(t, j, 9, 0)
	d.SetFuse(100)
	wantOver(t, j, 9, 0)
	// A new one of the disk's cut works.
	c := d.Cut(nil)
	wantOver(t, j, 9, 0)
	again := newJournal(t, c, 0, 10, 2)
	wantAppend(t, again, recordOf(300, 1), api.OK)
	wantSync(t, again, api.OK)
	wantScan(t, c, 0, 10, 2, recordOf(300, 1))
	wantOver(t, j, 9, 0)
}
