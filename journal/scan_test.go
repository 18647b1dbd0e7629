package journal_test

import (
	"testing"

	"muniment/api"
	"muniment/disk"
)

// P7.1: Scan of areas with anything in them.

// Three records, of two sectors, of one and of three, and one more of one.
func fourRecords() [][]byte {
	return [][]byte{recordOf(300, 1), recordOf(234, 2), recordOf(469, 3), recordOf(5, 4)}
}

// firstOf are, of the sectors of those, the first ones of their records, and of the one behind them.
func firstOf() []int {
	return []int{0, 2, 3, 6, 7}
}

// standing is how many of those records stand ahead of a sector, and don't reach to it.
func standing(sector int) int {
	for i, first := range firstOf() {
		if first > sector {
			return i - 1
		}
	}
	return 4
}

func TestScan(t *testing.T) {
	records := fourRecords()
	for from := range 3 {
		d := diskOf(t, from, sectorsOf(6, records...))
		for count := range 8 {
			wantScan(t, d, from, count, 6, records[:standing(count)]...)
			wantScan(t, d, from, count, 5)
			wantScan(t, d, from+1, count, 6)
		}
		wantScan(t, d, from, 8, 6, records...)
		wantScanError(t, d, from, 9, api.ErrArg)
	}
}

// What is pending is scanned too.
func TestScanOfPending(t *testing.T) {
	d := disk.New(9)
	records := fourRecords()
	for i, b := range sectorsOf(6, records...) {
		wantScan(t, d, 0, 9, 6, records[:standing(i)]...)
		d.Write(i, b)
	}
	wantScan(t, d, 0, 9, 6, records...)
}

// One byte of one sector is another one, at every place: no record behind it is found, nor the one that it is of.
func TestScanOfEachByteChanged(t *testing.T) {
	records := fourRecords()
	good := sectorsOf(6, records...)
	for i, sector := range good {
		want := standing(i)
		length := int(sector[20])<<8 | int(sector[21])
		for at := range 256 {
			if at >= 22 && at < 22+length {
				continue
			}
			for _, flip := range []byte{1, 2, 128, 255} {
				bad := append([]byte{}, sector...)
				bad[at] ^= flip
				if now := int(bad[21]); at == 21 && now > length && now <= 234 {
					continue // a longer record, of 0 at its end
				}
				if at == 19 && i == 3 && bad[19] == 1 {
					continue // a record of this part alone
				}
				sectors := append([][]byte{}, good...)
				sectors[i] = bad
				d := diskOf(t, 0, sectors)
				wantScan(t, d, 0, 7, 6, records[:want]...)
			}
		}
		if t.Failed() {
			return
		}
	}
}

// A sector's bytes of the record may be any: no sum is over them.
func TestScanOfRecordsBytesChanged(t *testing.T) {
	sectors := sectorsOf(6, recordOf(300, 1), recordOf(3, 2))
	sectors[1][22] ^= 255
	other := recordOf(300, 1)
	other[234] ^= 255
	wantScan(t, diskOf(t, 0, sectors), 0, 3, 6, other, recordOf(3, 2))
}

// Nor is the length of its last part known otherwise than by what stands in it.
func TestScanOfLongerLastPart(t *testing.T) {
	for _, length := range []int{67, 68, 200, 233, 234} {
		sectors := sectorsOf(6, recordOf(300, 1), recordOf(3, 2))
		sectors[1][21] = byte(length)
		longer := append(recordOf(300, 1), make([]byte, length-66)...)
		wantScan(t, diskOf(t, 0, sectors), 0, 3, 6, longer, recordOf(3, 2))
	}
}

// Each sector is missing, stands once more in the next one's place, or is one of another journal.
func TestScanOfSectorsChanged(t *testing.T) {
	records := fourRecords()
	good := sectorsOf(6, records...)
	older := sectorsOf(5, records...)
	longer := sectorsOf(6, recordOf(600, 1), recordOf(600, 2), recordOf(600, 3))
	for i := range good {
		want := records[:standing(i)]
		for _, bad := range [][]byte{blank(), older[i], longer[i], good[(i+1)%7], good[(i+6)%7], recordOf(256, 9)} {
			sectors := append([][]byte{}, good...)
			sectors[i] = bad
			d := diskOf(t, 1, sectors)
			if i < 2 && string(bad) == string(longer[i]) {
				want = nil // parts of three and of two
			}
			wantScan(t, d, 1, 8, 6, want...)
		}
	}
}

// Only the first records of the new epoch stand ahead of those of the old one.
func TestScanOfEpochsMixed(t *testing.T) {
	older, newer := sectorsOf(1, fourRecords()...), sectorsOf(2, recordOf(5, 1), recordOf(500, 2), recordOf(6, 3), recordOf(235, 4))
	newest := [][]byte{recordOf(5, 1), recordOf(500, 2), recordOf(6, 3), recordOf(235, 4)}
	firsts := []int{0, 1, 4, 5, 7}
	for written := range 8 {
		d := diskOf(t, 0, append(append([][]byte{}, newer[:written]...), older[written:]...))
		whole := 0
		for whole < 4 && firsts[whole+1] <= written {
			whole++
		}
		wantScan(t, d, 0, 7, 2, newest[:whole]...)
		if written == 0 {
			wantScan(t, d, 0, 7, 1, fourRecords()...)
		} else {
			wantScan(t, d, 0, 7, 1)
		}
	}
}

// A record of such sectors is none: each sector alone might be one of a record, but all together are just those of none.
func TestScanOfUnevenParts(t *testing.T) {
	whole := func(n int) []byte { return recordOf(n, 3) }
	for _, heads := range [][]head{
		{{length: 0, parts: 1}},
		{{length: 235, parts: 1}},
		{{length: 65535, parts: 1}},
		{{length: 5, parts: 0}},
		{{length: 5, parts: 2}},
		{{length: 234, parts: 2}},
		{{length: 5, parts: 65535}},
		{{length: 0, parts: 0}},
		{{length: 5, parts: 1, part: 1}},
		{{length: 234, parts: 2}, {length: 0, parts: 2, part: 1}},
		{{length: 233, parts: 2}, {length: 234, parts: 2, part: 1}},
		{{length: 233, parts: 2}, {length: 2, parts: 2, part: 1}},
		{{length: 0, parts: 2}, {length: 234, parts: 2, part: 1}},
		{{length: 1, parts: 2}, {length: 233, parts: 2, part: 1}},
		{{length: 235, parts: 2}, {length: 5, parts: 2, part: 1}},
		{{length: 234, parts: 2}, {length: 235, parts: 2, part: 1}},
		{{length: 234, parts: 2}, {length: 5, parts: 1, part: 1}},
		{{length: 234, parts: 2}, {length: 5, parts: 2, part: 0}},
		{{length: 234, parts: 2}, {length: 5, parts: 2, part: 2}},
		{{length: 234, parts: 2, part: 1}, {length: 5, parts: 2}},
		{{length: 234, parts: 3}, {length: 5, parts: 3, part: 1}},
		{{length: 234, parts: 3}, {length: 200, parts: 3, part: 1}, {length: 34, parts: 3, part: 2}},
		{{length: 234, parts: 2}, {length: 234, parts: 2, part: 1, record: 1}},
	} {
		var sectors [][]byte
		for i, h := range heads {
			h.epoch, h.place = 9, uint32(i)
			sectors = append(sectors, h.sector(whole(min(int(h.length), 234))))
		}
		// Whole records behind it are nothing to it, whichever numbers they have.
		for place := len(sectors); place < 5; place++ {
			h := head{epoch: 9, place: uint32(place), record: uint32(place - len(heads)), parts: 1, length: 3}
			sectors = append(sectors, h.sector([]byte("abc")))
		}
		d := diskOf(t, 0, sectors)
		l := []int{len(heads), 5, 6}
		for _, count := range l {
			wantScan(t, d, 0, count, 9)
		}
	}
}

// Records of many parts: the greatest one, and sectors of one that would be longer.
func TestScanOfGreatRecords(t *testing.T) {
	greatest := sectorsOf(1, recordOf(8000, 1), recordOf(3, 2))
	wantScan(t, diskOf(t, 0, greatest), 0, 36, 1, recordOf(8000, 1), recordOf(3, 2))
	wantScan(t, diskOf(t, 0, greatest), 0, 34, 1)
	for _, n := range []int{8001, 8002, 8190, 8191, 8424, 10000, 59904, 60000} {
		for _, ahead := range [][][]byte{nil, {recordOf(300, 1)}} {
			sectors := sectorsOf(1, append(ahead, recordOf(n, 1), recordOf(3, 2))...)
			d := diskOf(t, 0, sectors)
			wantScan(t, d, 0, len(sectors), 1, ahead...)
		}
	}
}

// A record of whose sectors the area, or the disk, has but the first ones.
func TestScanOfAreaThatEnds(t *testing.T) {
	for _, n := range []int{235, 468, 469, 8000} {
		records := [][]byte{recordOf(10, 1), recordOf(n, 2)}
		all := sectorsOf(1, records...)
		for have := 1; have <= len(all); have++ {
			d := disk.New(have)
			for i, b := range all[:have] {
				d.Write(i, b)
			}
			want := records[:1]
			if have == len(all) {
				want = records
			}
			for count := 1; count < have; count++ {
				wantScan(t, d, 0, count, 1, records[:1]...)
			}
			wantScan(t, d, 0, have, 1, want...)
		}
	}
}

// An area that begins behind a journal's first sector, or ahead of it, is not that journal's.
func TestScanOfOtherPlaces(t *testing.T) {
	records := [][]byte{recordOf(1, 1), recordOf(2, 2), recordOf(3, 3)}
	d := diskOf(t, 3, sectorsOf(1, records...))
	for from := range 7 {
		for count := range 8 - from {
			if from == 3 {
				wantScan(t, d, from, count, 1, records[:min(count, 3)]...)
			} else {
				wantScan(t, d, from, count, 1)
			}
		}
	}
}

// Two records of one number, or one number left out.
func TestScanOfNumbers(t *testing.T) {
	for _, numbers := range [][2]uint32{{0, 0}, {0, 2}, {1, 1}, {1, 2}, {1, 0}, {0, 1 << 31}, {0, 1<<32 - 1}} {
		var sectors [][]byte
		for place, number := range numbers {
			h := head{epoch: 1, place: uint32(place), record: number, parts: 1, length: 1}
			sectors = append(sectors, h.sector([]byte("a")))
		}
		want := [][]byte{}
		if numbers[0] == 0 {
			want = append(want, []byte("a"))
		}
		wantScan(t, diskOf(t, 0, sectors), 0, 2, 1, want...)
	}
}

// The epoch 0 is in sectors that are all 0, but they are no record's.
func TestScanOfBlank(t *testing.T) {
	d := disk.New(10)
	for _, epoch := range []uint64{0, 1, 1<<64 - 1} {
		wantScan(t, d, 0, 10, epoch)
	}
	for _, c := range []byte{1, 255} {
		b := blank()
		for i := range b {
			b[i] = c
		}
		var sectors [][]byte
		for range 5 {
			sectors = append(sectors, b)
		}
		d := diskOf(t, 0, sectors)
		for _, epoch := range []uint64{0, 0x0101010101010101, 1<<64 - 1} {
			wantScan(t, d, 0, 5, epoch)
		}
	}
}
