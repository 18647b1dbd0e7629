package journal_test

import (
	"testing"

	"muniment/api"
	"muniment/disk"
	"muniment/journal"
)

// P7.3: what Scan finds behind a power cut.

// allKeeps are all lists of that many members.
func allKeeps(n int) [][]bool {
	if n == 0 {
		return [][]bool{nil}
	}
	var l [][]bool
	for _, rest := range allKeeps(n - 1) {
		l = append(l, append([]bool{false}, rest...), append([]bool{true}, rest...))
	}
	return l
}

// kept is how many of these records are whole, where of their sectors from a number on only some are kept.
func kept(records [][]byte, lasting int, keep []bool) int {
	at := 0
	for i, b := range records {
		for range journal.Parts(len(b)) {
			if at >= lasting && len(keep) > 0 && !keep[(at-lasting)%len(keep)] {
				return i
			}
			at++
		}
	}
	return len(records)
}

// Records of one, two, one and three sectors: synced behind each of them, and cut behind each part that is written, all ways.
func TestCuts(t *testing.T) {
	records := [][]byte{recordOf(5, 1), recordOf(235, 2), recordOf(234, 3), recordOf(500, 4)}
	for synced := range len(records) + 1 {
		lasting := len(sectorsOf(1, records[:synced]...))
		for acts := range 8 - lasting {
			d := disk.New(10)
			j := newJournal(t, d, 1, 9, 1)
			for _, b := range records[:synced] {
				wantAppend(t, j, b, api.OK)
			}
			wantSync(t, j, api.OK)
			d.SetFuse(acts)
			for _, b := range records[synced:] {
				if j.Append(b) != api.OK {
					break
				}
			}
			wantCuts(t, d, lasting, acts, records)
		}
	}
}

func wantCuts(t *testing.T, d *disk.Disk, lasting, written int, records [][]byte) {
	t.Helper()
	for _, keep := range allKeeps(written) {
		whole := append([]bool{}, keep...)
		for len(whole) < 7 {
			whole = append(whole, false)
		}
		want := records[:kept(records, lasting, whole)]
		c := d.Cut(keep)
		wantScan(t, c, 1, 9, 1, want...)
		wantScan(t, c, 1, 9, 2)
		// A further cut takes nothing away.
		wantScan(t, c.Cut([]bool{false}), 1, 9, 1, want...)
	}
}

// Without a Sync there may be none; with one there are at least those ahead of it.
func TestCutThatKeepsNothing(t *testing.T) {
	for synced := range 6 {
		d := disk.New(100)
		j := newJournal(t, d, 0, 100, 1)
		var records [][]byte
		for i := range 5 {
			if i == synced {
				wantSync(t, j, api.OK)
			}
			records = append(records, recordOf(200*i+1, byte(i)))
			wantAppend(t, j, records[i], api.OK)
		}
		want := records[:synced]
		if synced == 5 {
			want = nil // it was never synced
		}
		wantScan(t, d.Cut([]bool{false}), 0, 100, 1, want...)
		wantScan(t, d.Cut(nil), 0, 100, 1, records...)
	}
}

// A Sync that is refused makes nothing last.
func TestCutBehindLostSync(t *testing.T) {
	d := disk.New(10)
	j := newJournal(t, d, 0, 10, 1)
	wantAppend(t, j, recordOf(300, 1), api.OK)
	wantSync(t, j, api.OK)
	wantAppend(t, j, recordOf(300, 2), api.OK)
	wantAppend(t, j, recordOf(3, 3), api.OK)
	d.SetFuse(0)
	wantSync(t, j, api.ErrLost)
	wantScan(t, d.Cut([]bool{false}), 0, 10, 1, recordOf(300, 1))
	wantScan(t, d.Cut([]bool{true, false}), 0, 10, 1, recordOf(300, 1))
	wantScan(t, d.Cut([]bool{true, true, false}), 0, 10, 1, recordOf(300, 1), recordOf(300, 2))
	wantScan(t, d.Cut([]bool{false, true, true}), 0, 10, 1, recordOf(300, 1))
	wantScan(t, d.Cut([]bool{true}), 0, 10, 1, recordOf(300, 1), recordOf(300, 2), recordOf(3, 3))
}

// In the area stand records of other epochs, also behind the new ones, and of just their lengths.
func TestCutsOverOldEpochs(t *testing.T) {
	for _, n := range []int{1, 234, 235, 469} {
		var older, newer [][]byte
		for i := range 3 {
			older = append(older, recordOf(n, byte(i)))
			newer = append(newer, recordOf(n, byte(100+i)))
		}
		size := len(sectorsOf(1, older...))
		d := diskOf(t, 1, sectorsOf(1, older...))
		j := newJournal(t, d, 1, size, 2)
		wantAppend(t, j, newer[0], api.OK)
		wantSync(t, j, api.OK)
		wantAppend(t, j, newer[1], api.OK)
		wantAppend(t, j, newer[2], api.OK)
		parts := size / 3
		for _, keep := range allKeeps(2 * parts) {
			want := newer[:kept(newer, parts, keep)]
			wantScan(t, d.Cut(keep), 1, size, 2, want...)
			wantScan(t, d.Cut(keep), 1, size, 1)
		}
	}
}
