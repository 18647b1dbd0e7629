package journal_test

import (
	"testing"

	"muniment/api"
	"muniment/disk"
	"muniment/journal"
)

// R5: what is handed in is left as it is, its spare room too, and isn't kept; what is answered is new memory.

// withRoom are b's bytes with spare room, in which something stands.
func withRoom(b []byte) []byte {
	all := append(append([]byte{}, b...), recordOf(300, 200)...)
	return all[:len(b)]
}

// whole are b's bytes, and those in its spare room.
func whole(b []byte) string {
	return string(b[:cap(b)])
}

func spoil(b []byte) {
	b = b[:cap(b)]
	for i := range b {
		b[i] = 77
	}
}

func TestMemoryOfAppend(t *testing.T) {
	d := disk.New(100)
	j := newJournal(t, d, 0, 100, 1)
	var records [][]byte
	for _, n := range []int{1, 100, 233, 234, 235, 468, 469, 1000, 8000} {
		b := withRoom(recordOf(n, byte(n)))
		before := whole(b)
		wantAppend(t, j, b, api.OK)
		if whole(b) != before {
			t.Errorf("Append of %d bytes: they have changed", n)
		}
		spoil(b)
		records = append(records, recordOf(n, byte(n)))
		wantScan(t, d, 0, 100, 1, records...)
	}
	wantSync(t, j, api.OK)
	wantScan(t, d, 0, 100, 1, records...)
	wantScan(t, d.Cut(nil), 0, 100, 1, records...)
}

// What is refused is left as it is, too.
func TestMemoryOfAppendRefused(t *testing.T) {
	d := disk.New(10)
	full, over, fused := newJournal(t, d, 0, 0, 1), newJournal(t, disk.New(9), 0, 9, 1), disk.New(60)
	over.Append([]byte("a"))
	half := newJournal(t, fused, 0, 60, 1)
	fused.SetFuse(1)
	for _, j := range []*journal.Journal{nil, {}, full, over, half} {
		for _, n := range []int{0, 1, 235, 8000, 8001} {
			b := withRoom(recordOf(n, 1))
			before := whole(b)
			j.Append(b)
			if whole(b) != before {
				t.Errorf("Append of %d bytes: they have changed", n)
			}
		}
	}
}

// One list, appended twice, is two records.
func TestMemoryOfAppendAgain(t *testing.T) {
	d := disk.New(10)
	j := newJournal(t, d, 0, 10, 1)
	b := withRoom(recordOf(400, 1))
	wantAppend(t, j, b, api.OK)
	copy(b, recordOf(400, 2))
	wantAppend(t, j, b[:300], api.OK)
	spoil(b)
	wantScan(t, d, 0, 10, 1, recordOf(400, 1), recordOf(400, 2)[:300])
}

// No two records that are answered share memory, nor with the disk, nor with another answer.
func TestMemoryOfScan(t *testing.T) {
	for _, pending := range []bool{false, true} {
		records := [][]byte{recordOf(5, 1), recordOf(234, 2), recordOf(235, 3), recordOf(700, 4), recordOf(1, 5)}
		d := disk.New(20)
		j := newJournal(t, d, 2, 18, 1)
		for _, b := range records {
			wantAppend(t, j, b, api.OK)
		}
		if !pending {
			wantSync(t, j, api.OK)
		}
		other, _ := journal.Scan(d, 2, 18, 1)
		for i := range records {
			l, err := journal.Scan(d, 2, 18, 1)
			if err != api.OK || len(l) != len(records) {
				t.Fatalf("Scan: %s, error %d", told(l), err)
			}
			spoil(l[i])
			_ = append(l[i], 5, 6, 7)
			for k := range l {
				if k != i && string(l[k]) != string(records[k]) {
					t.Errorf("the records %d and %d share memory", i, k)
				}
			}
			for k := range l[:cap(l)] {
				l[:cap(l)][k] = nil
			}
			wantScan(t, d, 2, 18, 1, records...)
		}
		if !alike(other, records) {
			t.Errorf("two answers share memory: %s", told(other))
		}
		wantSectors(t, d, 2, sectorsOf(1, records...)...)
		wantScan(t, d.Cut(nil), 2, 18, 1, records...)
		// What was answered stays as it was.
		again := newJournal(t, d, 2, 18, 1)
		wantAppend(t, again, recordOf(3000, 9), api.OK)
		if !alike(other, records) {
			t.Errorf("what was answered has changed: %s", told(other))
		}
	}
}
