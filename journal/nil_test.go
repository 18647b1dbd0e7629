package journal_test

import (
	"testing"

	"muniment/api"
	"muniment/disk"
	"muniment/journal"
)

// R1, P7.1 and P7.2: a nil *Journal, a nil disk, and a journal that New didn't make.

func TestNilJournal(t *testing.T) {
	var j *journal.Journal
	wantOver(t, j, 0, 0)
}

// A nil disk has no sectors, and is down.
func TestNilDisk(t *testing.T) {
	for _, c := range [][2]int{{0, 1}, {1, 0}, {1, 1}, {-1, 0}, {0, -1}, {-1, 1}, {1, -1}, {0, 65536}, {greatest, 1}, {greatest, greatest}, {-1 << 63, -1 << 63}} {
		wantNewError(t, nil, c[0], c[1], api.ErrArg)
		wantScanError(t, nil, c[0], c[1], api.ErrArg)
	}
	wantScan(t, nil, 0, 0, 1)
	var d *disk.Disk
	j := newJournal(t, d, 0, 0, 1)
	wantRoom(t, j, 0, 0)
	wantAppend(t, j, nil, api.ErrArg)
	wantAppend(t, j, recordOf(8001, 1), api.ErrLong)
	wantAppend(t, j, recordOf(1, 1), api.ErrFull)
	wantSync(t, j, api.ErrLost)
	wantOver(t, j, 0, 0)
}

func TestZeroJournal(t *testing.T) {
	j := &journal.Journal{}
	wantRoom(t, j, 0, 0)
	wantAppend(t, j, nil, api.ErrArg)
	wantAppend(t, j, recordOf(1, 1), api.ErrFull)
	wantSync(t, j, api.ErrLost)
	wantOver(t, j, 0, 0)
}
