package journal_test

import (
	"testing"

	"muniment/api"
	"muniment/disk"
	"muniment/journal"
)

// P7.1: New, Scan's arguments, Parts.

// An area is asked of a disk of that many sectors.
type area struct {
	size, from, count int
	ok                bool
}

func areas() []area {
	l := []area{
		{0, 0, 0, true}, {0, 0, 1, false}, {0, 1, 0, false}, {0, 1, 1, false},
		{1, 0, 0, true}, {1, 0, 1, true}, {1, 1, 0, true}, {1, 1, 1, false}, {1, 0, 2, false}, {1, 2, 0, false},
		{7, 0, 7, true}, {7, 0, 8, false}, {7, 3, 4, true}, {7, 3, 5, false}, {7, 7, 0, true}, {7, 7, 1, false}, {7, 8, 0, false},
		{7, 6, 1, true}, {7, 6, 2, false}, {7, 3, 0, true}, {7, 3, 3, true},
		{65536, 0, 65536, true}, {65536, 0, 65537, false}, {65536, 65535, 1, true}, {65536, 65536, 0, true}, {65536, 65536, 1, false}, {65536, 65537, 0, false},
	}
	for _, wrong := range []int{-1, -2, -7, -256, -1 << 31, -1 << 32, -1 << 63, -1<<63 + 1} {
		l = append(l, area{7, wrong, 0, false}, area{7, wrong, 7, false}, area{7, 0, wrong, false}, area{7, 7, wrong, false}, area{7, wrong, wrong, false})
		l = append(l, area{7, -wrong, wrong, false}, area{7, wrong, -wrong, false}, area{7, 7 - wrong, wrong, false}, area{7, wrong, 7 - wrong, false})
	}
	for _, far := range []int{8, 65536, 1 << 31, 1<<32 - 1, 1 << 32, 1<<32 + 3, 1 << 62, greatest - 7, greatest - 1, greatest} {
		l = append(l, area{7, far, 0, false}, area{7, far, 1, false}, area{7, 0, far, false}, area{7, 1, far, false}, area{7, 7, far, false})
		l = append(l, area{7, far, far, false}, area{7, far, greatest, false}, area{7, greatest, far, false}, area{7, far, 1 << 62, false})
	}
	return l
}

func TestNewAreas(t *testing.T) {
	for _, c := range areas() {
		d := disk.New(c.size)
		if !c.ok {
			wantNewError(t, d, c.from, c.count, api.ErrArg)
			wantScanError(t, d, c.from, c.count, api.ErrArg)
			wantActs(t, d, 0, 0, 0)
			continue
		}
		wantRoom(t, newJournal(t, d, c.from, c.count, 1), c.count, 0)
		wantActs(t, d, 0, 0, 0)
		wantScan(t, d, c.from, c.count, 1)
	}
}

// A journal keeps to its area: it fills it, and the sectors beside it stay.
func TestNewIsItsArea(t *testing.T) {
	for _, c := range areas() {
		if !c.ok || c.size > 1000 {
			continue
		}
		d := disk.New(c.size)
		j := newJournal(t, d, c.from, c.count, 9)
		var records [][]byte
		for i := range c.count {
			records = append(records, recordOf(3, byte(i)))
			wantAppend(t, j, records[i], api.OK)
		}
		wantAppend(t, j, []byte("x"), api.ErrFull)
		wantSectors(t, d, 0, fullBlank(c.from)...)
		wantSectors(t, d, c.from, sectorsOf(9, records...)...)
		wantSectors(t, d, c.from+c.count, fullBlank(c.size-c.from-c.count)...)
		wantScan(t, d, c.from, c.count, 9, records...)
	}
}

// New reads and writes nothing: what stands in the area is nothing to it, nor is a disk that is down, and no fuse is spent.
func TestNewDoesNothing(t *testing.T) {
	records := [][]byte{recordOf(300, 1), recordOf(1, 2)}
	d := diskOf(t, 2, sectorsOf(5, records...))
	wantActs(t, d, 0, 3, 1)
	d.SetFuse(1)
	j := newJournal(t, d, 2, 4, 5)
	wantRoom(t, j, 4, 0)
	wantActs(t, d, 0, 3, 1)
	if d.Pending() != 0 || d.Down() {
		t.Error("New has written")
	}
	wantScan(t, d, 2, 4, 5, records...)
	wantAppend(t, j, []byte("a"), api.OK)
	wantAppend(t, j, []byte("b"), api.ErrLost)
	if !d.Down() {
		t.Error("the fuse has changed")
	}
	wantRoom(t, newJournal(t, d, 2, 4, 5), 4, 0)
	wantNewError(t, d, 2, 5, api.ErrArg)
}

func TestScanReadsAlone(t *testing.T) {
	records := [][]byte{recordOf(300, 1), recordOf(1, 2)}
	d := diskOf(t, 2, sectorsOf(5, records...))
	d.SetFuse(1)
	for range 3 {
		wantScan(t, d, 2, 4, 5, records...)
	}
	acts := d.Acts()
	if acts[1] != 3 || acts[2] != 1 || d.Pending() != 0 {
		t.Errorf("Scan has written: %v, pending %d", acts, d.Pending())
	}
	if err := d.Sync(); err != api.OK {
		t.Errorf("Scan has spent the fuse: error %d", err)
	}
}

// A wrong area goes ahead of a disk that is down.
func TestScanOfDiskDown(t *testing.T) {
	d := diskOf(t, 2, sectorsOf(1, recordOf(300, 1)))
	d.SetFuse(0)
	d.Sync()
	for _, c := range [][2]int{{0, 1}, {0, 5}, {2, 2}, {2, 3}, {4, 1}} {
		wantScanError(t, d, c[0], c[1], api.ErrLost)
	}
	for _, c := range [][2]int{{-1, 1}, {0, -1}, {0, 6}, {5, 1}, {6, 0}, {greatest, greatest}} {
		wantScanError(t, d, c[0], c[1], api.ErrArg)
	}
	// Where there is no sector, none is read.
	wantScan(t, d, 0, 0, 1)
	wantScan(t, d, 5, 0, 1)
}

func TestParts(t *testing.T) {
	for _, c := range [][2]int{
		{-1 << 63, 0}, {-1<<63 + 1, 0}, {-1 << 32, 0}, {-234, 0}, {-233, 0}, {-2, 0}, {-1, 0}, {0, 0},
		{1, 1}, {2, 1}, {233, 1}, {234, 1}, {235, 2}, {467, 2}, {468, 2}, {469, 3}, {702, 3}, {703, 4},
		{7999, 35}, {8000, 35}, {8001, 35}, {8190, 35}, {8191, 36}, {1 << 31, 9177281}, {1<<32 + 1, 18354562},
		{greatest, 39416119815618701}, {greatest - 6, 39416119815618701}, {greatest - 7, 39416119815618700}, {greatest - 240, 39416119815618700}, {greatest - 241, 39416119815618699},
	} {
		if n := journal.Parts(c[0]); n != c[1] {
			t.Errorf("Parts(%d): %d, want %d", c[0], n, c[1])
		}
	}
	sectors, left := 0, 0
	for n := range 20000 {
		if got := journal.Parts(n); got != sectors {
			t.Fatalf("Parts(%d): %d, want %d", n, got, sectors)
		}
		if left == 0 {
			sectors, left = sectors+1, 234
		}
		left--
	}
}

// The chapter's examples.
func TestExamples(t *testing.T) {
	if n := journal.Parts(235); n != 2 {
		t.Errorf("a record of 235 bytes has %d parts", n)
	}
	d := disk.New(3)
	j := newJournal(t, d, 0, 3, 1)
	wantAppend(t, j, []byte("a"), api.OK)
	wantScan(t, d, 0, 3, 1, []byte("a"))
	wantScan(t, d.Cut([]bool{false}), 0, 3, 1)
}
