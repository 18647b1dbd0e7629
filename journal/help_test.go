package journal_test

import (
	"encoding/binary"
	"strconv"
	"testing"

	"muniment/api"
	"muniment/disk"
	"muniment/journal"
)

// What the tests of this package share.

const greatest = 1<<63 - 1

// recordOf is a record of n bytes, that tells c, and at each place something else.
func recordOf(n int, c byte) []byte {
	b := make([]byte, n)
	for i := range b {
		b[i] = c + byte(i+i/256)
	}
	return b
}

// A head is what a sector tells ahead of the record's bytes.
type head struct {
	epoch               uint64
	place, record       uint32
	part, parts, length uint16
}

// sector is a sector of that head, with those bytes and 0 behind them.
func (h head) sector(b []byte) []byte {
	s := make([]byte, 256)
	binary.BigEndian.PutUint64(s, h.epoch)
	binary.BigEndian.PutUint32(s[8:], h.place)
	binary.BigEndian.PutUint32(s[12:], h.record)
	binary.BigEndian.PutUint16(s[16:], h.part)
	binary.BigEndian.PutUint16(s[18:], h.parts)
	binary.BigEndian.PutUint16(s[20:], h.length)
	copy(s[22:], b)
	return s
}

// sectorsOf are the sectors of records, from the first one of a journal on.
func sectorsOf(epoch uint64, records ...[]byte) [][]byte {
	var l [][]byte
	for number, b := range records {
		parts := (len(b) + 233) / 234
		for part := range parts {
			piece := b[234*part:]
			if len(piece) > 234 {
				piece = piece[:234]
			}
			h := head{epoch: epoch, place: uint32(len(l)), record: uint32(number), part: uint16(part), parts: uint16(parts), length: uint16(len(piece))}
			l = append(l, h.sector(piece))
		}
	}
	return l
}

// diskOf is a disk of more sectors than these, that stand on it from a number on, and last.
func diskOf(t *testing.T, from int, sectors [][]byte) *disk.Disk {
	t.Helper()
	d := disk.New(from + len(sectors) + 1)
	for i, b := range sectors {
		if err := d.Write(from+i, b); err != api.OK {
			t.Fatalf("Write(%d): error %d", from+i, err)
		}
	}
	if err := d.Sync(); err != api.OK {
		t.Fatalf("Sync: error %d", err)
	}
	return d
}

func newJournal(t *testing.T, d *disk.Disk, from, count int, epoch uint64) *journal.Journal {
	t.Helper()
	j, err := journal.New(d, from, count, epoch)
	if err != api.OK || j == nil {
		t.Fatalf("New(%d, %d): error %d", from, count, err)
	}
	return j
}

// told is what records show of themselves, short.
func told(records [][]byte) string {
	s := strconv.Itoa(len(records)) + " records"
	for _, b := range records {
		s += ", " + strconv.Itoa(len(b)) + " bytes " + strconv.Quote(string(b[:min(len(b), 4)]))
	}
	return s
}

func alike(a, b [][]byte) bool {
	if len(a) != len(b) {
		return false
	}
	for i := range a {
		if string(a[i]) != string(b[i]) {
			return false
		}
	}
	return true
}

func wantScan(t *testing.T, d *disk.Disk, from, count int, epoch uint64, want ...[]byte) {
	t.Helper()
	l, err := journal.Scan(d, from, count, epoch)
	if err != api.OK || !alike(l, want) {
		t.Errorf("Scan(%d, %d, %d): %s, error %d, want %s", from, count, epoch, told(l), err, told(want))
	}
}

func wantScanError(t *testing.T, d *disk.Disk, from, count int, want api.Errno) {
	t.Helper()
	l, err := journal.Scan(d, from, count, 1)
	if err != want || len(l) != 0 {
		t.Errorf("Scan(%d, %d): %s, error %d, want error %d and nothing beside it", from, count, told(l), err, want)
	}
}

func wantNewError(t *testing.T, d *disk.Disk, from, count int, want api.Errno) {
	t.Helper()
	j, err := journal.New(d, from, count, 1)
	if err != want || j != nil {
		t.Errorf("New(%d, %d): a journal %t, error %d, want error %d and none", from, count, j != nil, err, want)
	}
}

func wantAppend(t *testing.T, j *journal.Journal, b []byte, want api.Errno) {
	t.Helper()
	if err := j.Append(b); err != want {
		t.Errorf("Append of %d bytes: error %d, want %d", len(b), err, want)
	}
}

func wantSync(t *testing.T, j *journal.Journal, want api.Errno) {
	t.Helper()
	if err := j.Sync(); err != want {
		t.Errorf("Sync: error %d, want %d", err, want)
	}
}

func wantRoom(t *testing.T, j *journal.Journal, room, records int) {
	t.Helper()
	if j.Room() != room || j.Records() != records {
		t.Errorf("Room %d, Records %d, want %d and %d", j.Room(), j.Records(), room, records)
	}
}

// wantOver asks that a journal is over, whatever it is asked, and stays as it is.
func wantOver(t *testing.T, j *journal.Journal, room, records int) {
	t.Helper()
	for range 2 {
		for _, n := range []int{0, 1, 234, 235, api.MaxRecord, api.MaxRecord + 1, 100000} {
			wantAppend(t, j, recordOf(n, 1), api.ErrLost)
		}
		wantAppend(t, j, nil, api.ErrLost)
		wantSync(t, j, api.ErrLost)
		wantRoom(t, j, room, records)
	}
}

func wantActs(t *testing.T, d *disk.Disk, reads, writes, syncs int64) {
	t.Helper()
	if acts := d.Acts(); acts != [3]int64{reads, writes, syncs} {
		t.Errorf("Acts: %v, want %v", acts, [3]int64{reads, writes, syncs})
	}
}

// wantSectors asks for all bytes of the sectors from a number on.
func wantSectors(t *testing.T, d *disk.Disk, from int, want ...[]byte) {
	t.Helper()
	for i, b := range want {
		got, err := d.Read(from + i)
		if err != api.OK || string(got) != string(b) {
			t.Errorf("sector %d: %x, error %d, want %x", from+i, got, err, b)
		}
	}
}

func blank() []byte {
	return make([]byte, 256)
}

// fullBlank are that many sectors of nothing but 0.
func fullBlank(n int) [][]byte {
	var l [][]byte
	for range n {
		l = append(l, blank())
	}
	return l
}
