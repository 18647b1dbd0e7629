package disk_test

import (
	"testing"

	"muniment/api"
	"muniment/disk"
)

// P6.1: New, Size, Read, Write, Sync.

func TestSizes(t *testing.T) {
	for _, c := range newSizes() {
		d := disk.New(c[0])
		if d == nil {
			t.Fatalf("New(%d) is nil", c[0])
		}
		if d.Size() != c[1] {
			t.Errorf("New(%d): Size %d, want %d", c[0], d.Size(), c[1])
		}
		wantDown(t, d, false)
		wantPending(t, d, 0)
		wantActs(t, d, 0, 0, 0)
	}
}

func TestNewIsBlank(t *testing.T) {
	for _, c := range newSizes() {
		d := disk.New(c[0])
		for n := range c[1] {
			if b, err := d.Read(n); err != api.OK || string(b) != string(blank()) {
				t.Fatalf("New(%d): Read(%d): %s, error %d", c[0], n, told(b), err)
			}
		}
	}
}

// The first and the last sector, and those beyond.
func TestSectorsOfSizes(t *testing.T) {
	for _, c := range newSizes() {
		d := disk.New(c[0])
		for _, n := range farSectors(c[1]) {
			wantReadError(t, d, n, api.ErrArg)
			wantWrite(t, d, n, sectorOf(9), api.ErrArg)
		}
		wantPending(t, d, 0)
		wantActs(t, d, 0, 0, 0)
		if c[1] == 0 {
			continue
		}
		last := c[1] - 1
		wantWrite(t, d, last, sectorOf(2), api.OK)
		wantRead(t, d, last, sectorOf(2))
		if last > 0 {
			wantRead(t, d, last-1, blank())
			wantRead(t, d, 0, blank())
		}
		wantWrite(t, d, 0, sectorOf(1), api.OK)
		wantRead(t, d, 0, sectorOf(1))
		if last > 0 {
			wantRead(t, d, last, sectorOf(2))
		}
	}
}

func TestNoSectors(t *testing.T) {
	d := disk.New(0)
	wantReadError(t, d, 0, api.ErrArg)
	wantWrite(t, d, 0, sectorOf(1), api.ErrArg)
	wantSync(t, d, api.OK)
	wantActs(t, d, 0, 0, 1)
	wantDown(t, d, false)
}

// What is written is read at once, and behind a sync; other sectors stay.
func TestWrittenIsRead(t *testing.T) {
	d := disk.New(4)
	wantWrite(t, d, 1, sectorOf(7), api.OK)
	wantSectors(t, d, blank(), sectorOf(7), blank(), blank())
	wantSync(t, d, api.OK)
	wantSectors(t, d, blank(), sectorOf(7), blank(), blank())
	wantWrite(t, d, 1, sectorOf(8), api.OK)
	wantWrite(t, d, 3, sectorOf(9), api.OK)
	wantSectors(t, d, blank(), sectorOf(8), blank(), sectorOf(9))
	wantWrite(t, d, 3, blank(), api.OK)
	wantSectors(t, d, blank(), sectorOf(8), blank(), blank())
	wantSync(t, d, api.OK)
	wantSync(t, d, api.OK)
	wantSectors(t, d, blank(), sectorOf(8), blank(), blank())
}

func TestWrittenTwice(t *testing.T) {
	d := disk.New(2)
	for c := range byte(5) {
		wantWrite(t, d, 0, sectorOf(c), api.OK)
		wantRead(t, d, 0, sectorOf(c))
	}
	wantWrite(t, d, 1, sectorOf(10), api.OK)
	wantWrite(t, d, 0, sectorOf(11), api.OK)
	wantWrite(t, d, 1, sectorOf(12), api.OK)
	wantSectors(t, d, sectorOf(11), sectorOf(12))
	wantSync(t, d, api.OK)
	wantSectors(t, d, sectorOf(11), sectorOf(12))
	wantSectors(t, d.Cut([]bool{false}), sectorOf(11), sectorOf(12))
	wantWrite(t, d, 0, sectorOf(13), api.OK)
	wantWrite(t, d, 0, sectorOf(14), api.OK)
	wantWrite(t, d, 0, sectorOf(13), api.OK)
	wantSync(t, d, api.OK)
	wantSectors(t, d, sectorOf(13), sectorOf(12))
	wantSectors(t, d.Cut([]bool{false}), sectorOf(13), sectorOf(12))
}

// All bytes at all places.
func TestAllBytes(t *testing.T) {
	d := disk.New(256)
	for c := range 256 {
		wantWrite(t, d, c, sectorOf(byte(c)), api.OK)
	}
	for c := range 256 {
		wantRead(t, d, c, sectorOf(byte(c)))
	}
	wantSync(t, d, api.OK)
	for c := range 256 {
		wantRead(t, d, c, sectorOf(byte(c)))
	}
	for place := range api.Sector {
		b := blank()
		b[place] = 255
		wantWrite(t, d, 5, b, api.OK)
		wantRead(t, d, 5, b)
	}
}

// Every sector of the greatest disk is another.
func TestAllSectors(t *testing.T) {
	d := disk.New(65536)
	numbered := func(n int) []byte {
		b := sectorOf(byte(n))
		b[3], b[200] = byte(n>>8), byte(n)
		return b
	}
	for n := range 65536 {
		wantWrite(t, d, n, numbered(n), api.OK)
	}
	wantPending(t, d, 65536)
	for n := range 65536 {
		wantRead(t, d, n, numbered(n))
	}
	wantSync(t, d, api.OK)
	wantActs(t, d, 65536, 65536, 1)
	for n := range 65536 {
		wantRead(t, d, n, numbered(n))
	}
	cut := d.Cut(nil)
	for n := range 65536 {
		wantRead(t, cut, n, numbered(n))
	}
}

// R4: what is refused has changed nothing.
func TestWrongBytes(t *testing.T) {
	d := disk.New(3)
	wantWrite(t, d, 0, sectorOf(1), api.OK)
	wantSync(t, d, api.OK)
	wantWrite(t, d, 2, sectorOf(2), api.OK)
	for _, b := range wrongBytes() {
		for n := range 3 {
			wantWrite(t, d, n, b, api.ErrArg)
		}
		for _, n := range farSectors(3) {
			wantWrite(t, d, n, b, api.ErrArg)
		}
	}
	for length := range 600 {
		if length != api.Sector {
			wantWrite(t, d, 1, make([]byte, length), api.ErrArg)
		}
	}
	wantPending(t, d, 1)
	wantActs(t, d, 0, 2, 1)
	wantDown(t, d, false)
	wantSectors(t, d, sectorOf(1), blank(), sectorOf(2))
	wantSectors(t, d.Cut(nil), sectorOf(1), blank(), sectorOf(2))
	wantSectors(t, d.Cut([]bool{false}), sectorOf(1), blank(), blank())
}

func TestWrongSectors(t *testing.T) {
	d := disk.New(3)
	wantWrite(t, d, 0, sectorOf(1), api.OK)
	for _, n := range farSectors(3) {
		wantReadError(t, d, n, api.ErrArg)
		wantWrite(t, d, n, sectorOf(9), api.ErrArg)
	}
	wantPending(t, d, 1)
	wantActs(t, d, 0, 1, 0)
	wantDown(t, d, false)
	wantSectors(t, d, sectorOf(1), blank(), blank())
	wantSectors(t, d.Cut(nil), sectorOf(1), blank(), blank())
}

// R1: a disk that New didn't make has no sectors, and works.
func TestDiskUnmade(t *testing.T) {
	d := &disk.Disk{}
	wantSize(t, d, 0)
	wantReadError(t, d, 0, api.ErrArg)
	wantWrite(t, d, 0, sectorOf(1), api.ErrArg)
	wantSync(t, d, api.OK)
	wantSize(t, d.Cut(nil), 0)
	wantActs(t, d, 0, 0, 1)
	d.SetFuse(0)
	wantSync(t, d, api.ErrLost)
	wantDown(t, d, true)
}
