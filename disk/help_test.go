package disk_test

import (
	"math/rand"
	"strconv"
	"testing"

	"muniment/api"
	"muniment/disk"
)

// What the tests of this package share.

// blank is a sector as it is at first.
func blank() []byte {
	return make([]byte, api.Sector)
}

// sectorOf is a sector that tells c at each byte, and at each place in another way.
func sectorOf(c byte) []byte {
	b := blank()
	for i := range b {
		b[i] = c + byte(i*i)
	}
	return b
}

// newSizes are numbers of sectors, and how many a disk of them has.
func newSizes() [][2]int {
	return [][2]int{
		{0, 0}, {1, 1}, {2, 2}, {3, 3}, {99, 99}, {255, 255}, {256, 256}, {257, 257}, {60000, 60000}, {65535, 65535}, {65536, 65536},
		{-1, 0}, {-2, 0}, {-65536, 0}, {-1 << 32, 0}, {-1<<32 + 5, 0}, {-1 << 63, 0},
		{65537, 65536}, {65538, 65536}, {131072, 65536}, {1 << 31, 65536}, {1<<32 + 5, 65536}, {1<<63 - 1, 65536},
	}
}

// farSectors are no sectors of a disk of that size.
func farSectors(size int) []int {
	return []int{
		-1, -2, -size, -size - 1, -256, -65536, -1 << 31, -1 << 32, -1 << 63, -1<<63 + 1,
		size, size + 1, 2*size + 1, 65536, 65537, 1 << 31, 1 << 32, 1<<32 + 1, 1<<63 - 1,
	}
}

// wrongBytes are of other lengths than a sector's.
func wrongBytes() [][]byte {
	l := [][]byte{nil, {}, make([]byte, 0, api.Sector), sectorOf(9)[:1], sectorOf(9)[:api.Sector-1]}
	for _, more := range []int{1, 2, api.Sector, api.PageSize - api.Sector} {
		l = append(l, append(sectorOf(9), make([]byte, more)...))
	}
	return l
}

// allKeeps are all lists of that many members.
func allKeeps(n int) [][]bool {
	if n == 0 {
		return [][]bool{nil}
	}
	var l [][]bool
	for _, rest := range allKeeps(n - 1) {
		for _, first := range []bool{false, true} {
			l = append(l, append([]bool{first}, rest...))
		}
	}
	return l
}

func drawnKeep(r *rand.Rand, most int) []bool {
	var keep []bool
	for range r.Intn(most + 1) {
		keep = append(keep, r.Intn(2) == 0)
	}
	return keep
}

// told is what a sector shows of itself, short.
func told(b []byte) string {
	if len(b) == api.Sector {
		for c := range 256 {
			if string(b) == string(sectorOf(byte(c))) {
				return "sector of " + strconv.Itoa(c)
			}
		}
		if string(b) == string(blank()) {
			return "blank sector"
		}
	}
	if len(b) > 8 {
		return strconv.Itoa(len(b)) + " bytes, first " + strconv.Quote(string(b[:8]))
	}
	return strconv.Quote(string(b))
}

func wantRead(t *testing.T, d *disk.Disk, n int, want []byte) {
	t.Helper()
	b, err := d.Read(n)
	if err != api.OK || string(b) != string(want) {
		t.Errorf("Read(%d): %s, error %d, want %s", n, told(b), err, told(want))
	}
}

func wantReadError(t *testing.T, d *disk.Disk, n int, want api.Errno) {
	t.Helper()
	b, err := d.Read(n)
	if err != want || len(b) != 0 {
		t.Errorf("Read(%d): %s, error %d, want error %d and nothing beside it", n, told(b), err, want)
	}
}

func wantWrite(t *testing.T, d *disk.Disk, n int, b []byte, want api.Errno) {
	t.Helper()
	if err := d.Write(n, b); err != want {
		t.Errorf("Write(%d, %s): error %d, want %d", n, told(b), err, want)
	}
}

func wantSync(t *testing.T, d *disk.Disk, want api.Errno) {
	t.Helper()
	if err := d.Sync(); err != want {
		t.Errorf("Sync: error %d, want %d", err, want)
	}
}

func wantSize(t *testing.T, d *disk.Disk, want int) {
	t.Helper()
	if n := d.Size(); n != want {
		t.Errorf("Size: %d, want %d", n, want)
	}
}

func wantDown(t *testing.T, d *disk.Disk, want bool) {
	t.Helper()
	if down := d.Down(); down != want {
		t.Errorf("Down: %t, want %t", down, want)
	}
}

func wantPending(t *testing.T, d *disk.Disk, want int) {
	t.Helper()
	if n := d.Pending(); n != want {
		t.Errorf("Pending: %d, want %d", n, want)
	}
}

func wantActs(t *testing.T, d *disk.Disk, reads, writes, syncs int64) {
	t.Helper()
	if acts := d.Acts(); acts != [3]int64{reads, writes, syncs} {
		t.Errorf("Acts: %v, want %v", acts, [3]int64{reads, writes, syncs})
	}
}

// wantSectors asks for the first ones of a disk.
func wantSectors(t *testing.T, d *disk.Disk, want ...[]byte) {
	t.Helper()
	for n, b := range want {
		wantRead(t, d, n, b)
	}
}

// wantLost asks that a disk is down, whatever it is asked.
func wantLost(t *testing.T, d *disk.Disk) {
	t.Helper()
	wantDown(t, d, true)
	for n := range min(d.Size(), 5) {
		wantReadError(t, d, n, api.ErrLost)
		wantWrite(t, d, n, sectorOf(99), api.ErrLost)
	}
	for _, n := range farSectors(d.Size()) {
		wantReadError(t, d, n, api.ErrLost)
		wantWrite(t, d, n, sectorOf(99), api.ErrLost)
	}
	for _, b := range wrongBytes() {
		wantWrite(t, d, 0, b, api.ErrLost)
	}
	wantSync(t, d, api.ErrLost)
	wantDown(t, d, true)
}

// wantFuse asks, in acts, whether n more are done, and the next one isn't.
func wantFuse(t *testing.T, d *disk.Disk, n int) {
	t.Helper()
	for i := range n {
		if i%3 == 2 {
			wantSync(t, d, api.OK)
		} else {
			wantWrite(t, d, 0, sectorOf(byte(i)), api.OK)
		}
	}
	wantDown(t, d, false)
	wantWrite(t, d, 0, sectorOf(99), api.ErrLost)
	wantLost(t, d)
}

// wantNoFuse tries as many acts as no fuse of the tests has.
func wantNoFuse(t *testing.T, d *disk.Disk) {
	t.Helper()
	for range 300 {
		wantWrite(t, d, 0, sectorOf(1), api.OK)
		wantSync(t, d, api.OK)
	}
	wantDown(t, d, false)
}
