package journal_test

import (
	"testing"

	"muniment/api"
	"muniment/disk"
)

// P7.2: the bytes of a journal's sectors, each field at its place.

func TestSectorByByte(t *testing.T) {
	d := disk.New(1000)
	j := newJournal(t, d, 0, 1000, 0x1122334455667788)
	for range 0x0203 {
		wantAppend(t, j, []byte("a"), api.OK)
	}
	wantAppend(t, j, recordOf(600, 1), api.OK)
	last := recordOf(600, 1)[468:]
	for i, want := range [][]byte{
		{0x11, 0x22, 0x33, 0x44, 0x55, 0x66, 0x77, 0x88, 0, 0, 2, 3, 0, 0, 2, 3, 0, 0, 0, 3, 0, 234},
		{0x11, 0x22, 0x33, 0x44, 0x55, 0x66, 0x77, 0x88, 0, 0, 2, 4, 0, 0, 2, 3, 0, 1, 0, 3, 0, 234},
		{0x11, 0x22, 0x33, 0x44, 0x55, 0x66, 0x77, 0x88, 0, 0, 2, 5, 0, 0, 2, 3, 0, 2, 0, 3, 0, 132},
	} {
		b, err := d.Read(0x0203 + i)
		if err != api.OK || string(b[:22]) != string(want) {
			t.Errorf("sector %d: %x, want %x", i, b[:22], want)
		}
	}
	b, _ := d.Read(0x0205)
	if string(b[22:154]) != string(last) || string(b[154:]) != string(make([]byte, 102)) {
		t.Errorf("the last sector's bytes: %x", b[22:])
	}
}

func TestSectorsOfEpochs(t *testing.T) {
	for _, epoch := range []uint64{0, 1, 255, 256, 1 << 16, 1<<32 - 1, 1 << 32, 1 << 56, 1 << 63, 1<<64 - 2, 1<<64 - 1} {
		d := disk.New(11)
		j := newJournal(t, d, 2, 8, epoch)
		records := [][]byte{recordOf(234, 1), recordOf(235, 2), recordOf(1, 0), make([]byte, 234), recordOf(700, 255)}
		for _, b := range records {
			wantAppend(t, j, b, api.OK)
		}
		wantRoom(t, j, 0, 5)
		wantSectors(t, d, 0, blank(), blank())
		wantSectors(t, d, 2, sectorsOf(epoch, records...)...)
		wantSectors(t, d, 10, blank())
		wantScan(t, d, 2, 8, epoch, records...)
		for _, other := range []uint64{0, epoch + 1, epoch - 1, epoch << 8, epoch >> 8, epoch ^ 1<<63, ^epoch} {
			if other != epoch {
				wantScan(t, d, 2, 8, other)
			}
		}
	}
}

// The sectors' numbers are those in the journal, wherever it lies on the disk, and pass two bytes.
func TestSectorsOfGreatest(t *testing.T) {
	d := disk.New(65536)
	for _, from := range []int{1, 0} {
		j := newJournal(t, d, from, 65536-from, 7)
		for room := 65536 - from; room >= 35; room -= 35 {
			wantAppend(t, j, recordOf(8000, byte(room)), api.OK)
		}
		left := j.Room()
		for j.Room() > 0 {
			wantAppend(t, j, recordOf(234, byte(j.Room())), api.OK)
		}
		wantAppend(t, j, []byte("x"), api.ErrFull)
		number := (65536 - from) / 35
		wantRoom(t, j, 0, number+left)
		h := head{epoch: 7, place: uint32(65535 - from), record: uint32(number + left - 1), part: 0, parts: 1, length: 234}
		wantSectors(t, d, 65535, h.sector(recordOf(234, 1)))
	}
}
