package journal_test

import (
	"testing"

	"muniment/api"
	"muniment/disk"
)

// P7.2: Append, Sync, Room, Records.

func TestAppendLengths(t *testing.T) {
	for _, c := range [][2]int{{1, 1}, {2, 1}, {233, 1}, {234, 1}, {235, 2}, {467, 2}, {468, 2}, {469, 3}, {7956, 34}, {7957, 35}, {7999, 35}, {8000, 35}} {
		// It just fits, and there is one sector less, or more.
		for _, more := range []int{-1, 0, 1} {
			d := disk.New(c[1] + 5)
			j := newJournal(t, d, 2, c[1]+more, 3)
			b := recordOf(c[0], 7)
			if more < 0 {
				wantAppend(t, j, b, api.ErrFull)
				wantRoom(t, j, c[1]-1, 0)
				wantActs(t, d, 0, 0, 0)
				wantScan(t, d, 2, c[1]-1, 3)
				continue
			}
			wantAppend(t, j, b, api.OK)
			wantRoom(t, j, more, 1)
			wantActs(t, d, 0, int64(c[1]), 0)
			wantSectors(t, d, 2, sectorsOf(3, b)...)
			wantScan(t, d, 2, c[1]+more, 3, b)
			wantScan(t, d, 2, c[1], 3, b)
			wantScan(t, d, 2, c[1]-1, 3)
		}
	}
}

// Every length, one record behind the other.
func TestAppendAllLengths(t *testing.T) {
	d := disk.New(65536)
	j := newJournal(t, d, 0, 65536, 1)
	room := 65536
	var records [][]byte
	for n := 1; n <= 1500; n++ {
		records = append(records, recordOf(n, byte(n)))
		wantAppend(t, j, records[n-1], api.OK)
		room -= (n + 233) / 234
		wantRoom(t, j, room, n)
	}
	wantScan(t, d, 0, 65536, 1, records...)
	wantSectors(t, d, 0, sectorsOf(1, records...)...)
}

func TestAppendRefused(t *testing.T) {
	d := disk.New(100)
	j := newJournal(t, d, 10, 40, 1)
	b := recordOf(500, 1)
	wantAppend(t, j, b, api.OK)
	for range 2 {
		wantAppend(t, j, nil, api.ErrArg)
		wantAppend(t, j, []byte{}, api.ErrArg)
		wantAppend(t, j, make([]byte, 0, 300), api.ErrArg)
		wantAppend(t, j, recordOf(8001, 1), api.ErrLong)
		wantAppend(t, j, recordOf(8190, 1), api.ErrLong)
		wantAppend(t, j, recordOf(65536+5, 1), api.ErrLong)
		wantRoom(t, j, 37, 1)
	}
	wantActs(t, d, 0, 3, 0)
	// A record that finds no room is nothing to a shorter one behind it.
	wantAppend(t, j, recordOf(8000, 2), api.OK)
	wantAppend(t, j, recordOf(469, 3), api.ErrFull)
	wantRoom(t, j, 2, 2)
	wantAppend(t, j, recordOf(468, 3), api.OK)
	wantAppend(t, j, recordOf(1, 3), api.ErrFull)
	wantRoom(t, j, 0, 3)
	wantActs(t, d, 0, 40, 0)
	wantScan(t, d, 10, 40, 1, b, recordOf(8000, 2), recordOf(468, 3))
	// What is refused has spent no fuse, and hasn't ended the journal.
	wantSync(t, j, api.OK)
}

// Which error goes ahead, where several fit.
func TestAppendErrorsInOrder(t *testing.T) {
	for _, count := range []int{0, 1, 34} {
		d := disk.New(50)
		j := newJournal(t, d, 0, count, 1)
		wantAppend(t, j, nil, api.ErrArg)
		wantAppend(t, j, recordOf(8001, 1), api.ErrLong)
		wantAppend(t, j, recordOf(100000, 1), api.ErrLong)
		wantAppend(t, j, recordOf(8000, 1), api.ErrFull)
		d.SetFuse(0)
		wantAppend(t, j, nil, api.ErrArg)
		wantAppend(t, j, recordOf(8001, 1), api.ErrLong)
		wantAppend(t, j, recordOf(8000, 1), api.ErrFull)
		if d.Down() {
			t.Error("what was refused was written")
		}
		// A disk that is down is seen by a write that it refuses.
		d.Sync()
		wantAppend(t, j, nil, api.ErrArg)
		wantAppend(t, j, recordOf(8001, 1), api.ErrLong)
		wantAppend(t, j, recordOf(8000, 1), api.ErrFull)
		wantRoom(t, j, count, 0)
		wantSync(t, j, api.ErrLost)
		wantOver(t, j, count, 0)
	}
}

// A journal fills with records of one sector, of two, and of all that it has.
func TestAppendUntilFull(t *testing.T) {
	for count := range 20 {
		for _, n := range []int{1, 234, 235, 468, 469, 1000} {
			d := disk.New(count + 3)
			j := newJournal(t, d, 1, count, 1)
			parts := (n + 233) / 234
			var records [][]byte
			for i := range count / parts {
				records = append(records, recordOf(n, byte(i)))
				wantAppend(t, j, records[i], api.OK)
				wantRoom(t, j, count-parts*(i+1), i+1)
			}
			wantAppend(t, j, recordOf(n, 99), api.ErrFull)
			wantAppend(t, j, recordOf(8000, 99), api.ErrFull)
			for i := range count % parts {
				records = append(records, recordOf(234, byte(i)))
				wantAppend(t, j, records[len(records)-1], api.OK)
			}
			wantAppend(t, j, []byte("x"), api.ErrFull)
			wantRoom(t, j, 0, len(records))
			wantScan(t, d, 1, count, 1, records...)
			wantSectors(t, d, 1+count, blank(), blank())
		}
	}
}

func TestSync(t *testing.T) {
	d := disk.New(10)
	j := newJournal(t, d, 1, 9, 1)
	wantSync(t, j, api.OK)
	wantActs(t, d, 0, 0, 1)
	a, b := recordOf(300, 1), recordOf(10, 2)
	wantAppend(t, j, a, api.OK)
	wantScan(t, d.Cut([]bool{false}), 1, 9, 1)
	wantSync(t, j, api.OK)
	wantScan(t, d.Cut([]bool{false}), 1, 9, 1, a)
	wantAppend(t, j, b, api.OK)
	wantScan(t, d.Cut([]bool{false}), 1, 9, 1, a)
	wantRoom(t, j, 6, 2)
	wantSync(t, j, api.OK)
	wantSync(t, j, api.OK)
	wantRoom(t, j, 6, 2)
	wantActs(t, d, 0, 3, 4)
	wantScan(t, d.Cut([]bool{false}), 1, 9, 1, a, b)
	if d.Pending() != 0 {
		t.Error("writes are pending")
	}
}

// Append makes nothing last.
func TestAppendSyncsNot(t *testing.T) {
	d := disk.New(100)
	j := newJournal(t, d, 0, 100, 1)
	for i := range 20 {
		wantAppend(t, j, recordOf(800, byte(i)), api.OK)
		if d.Pending() != 4*(i+1) {
			t.Errorf("%d writes are pending", d.Pending())
		}
	}
	wantActs(t, d, 0, 80, 0)
}

// A journal writes its sectors anew, whatever stood in them.
func TestAppendOverOld(t *testing.T) {
	old := sectorsOf(4, recordOf(500, 1), recordOf(700, 2), recordOf(3, 3))
	for _, epoch := range []uint64{3, 4, 5} {
		d := diskOf(t, 1, old)
		j := newJournal(t, d, 1, len(old), epoch)
		b := recordOf(20, 9)
		wantAppend(t, j, b, api.OK)
		wantSectors(t, d, 1, sectorsOf(epoch, b)...)
		wantSectors(t, d, 2, old[1:]...)
		wantScan(t, d, 1, len(old), epoch, b)
		wantScan(t, d, 1, len(old), epoch+1)
	}
}

// Two journals of one disk, and one of another, do not hang on one another.
func TestJournalsByThemselves(t *testing.T) {
	d, other := disk.New(10), disk.New(10)
	a, b, c := newJournal(t, d, 0, 5, 1), newJournal(t, d, 5, 5, 1), newJournal(t, other, 0, 5, 1)
	wantAppend(t, a, recordOf(300, 1), api.OK)
	wantAppend(t, b, recordOf(3, 2), api.OK)
	wantAppend(t, a, recordOf(4, 3), api.OK)
	wantRoom(t, a, 2, 2)
	wantRoom(t, b, 4, 1)
	wantRoom(t, c, 5, 0)
	wantScan(t, d, 0, 5, 1, recordOf(300, 1), recordOf(4, 3))
	wantScan(t, d, 5, 5, 1, recordOf(3, 2))
	wantScan(t, d, 0, 10, 1, recordOf(300, 1), recordOf(4, 3))
	wantScan(t, other, 0, 10, 1)
	d.SetFuse(0)
	wantSync(t, a, api.ErrLost)
	wantOver(t, a, 2, 2)
	// Its disk is down, but b hasn't seen it.
	wantAppend(t, b, nil, api.ErrArg)
	wantAppend(t, b, recordOf(3, 2), api.ErrLost)
	wantOver(t, b, 4, 1)
	wantAppend(t, c, recordOf(3, 2), api.OK)
	wantSync(t, c, api.OK)
}
