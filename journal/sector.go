package journal

import (
	"bytes"
	"slices"

	"muniment/api"
)

// Of a sector the bytes ahead of the record's: the epoch's, those of its own number, of the record's, of the part's, of how many parts and of how many bytes.
const (
	partsAt   = 8 + 4 + 4 + 2
	lengthAt  = partsAt + 2
	headBytes = lengthAt + 2
	partBytes = api.Sector - headBytes
)

// A spot is what a record's sectors tell beside its bytes: its epoch, its first sector's number in the journal, and its own.
type spot struct {
	epoch  uint64
	place  int
	record int
}

// sectorsOf answers the sectors of the record b, one behind the other.
func sectorsOf(s spot, b []byte) []byte {
	parts := Parts(len(b))
	sectors := make([]byte, 0, parts*api.Sector)
	for part := range parts {
		piece := b[part*partBytes : min((part+1)*partBytes, len(b))]
		sectors = appendNumber(sectors, s.epoch, 8)
		sectors = appendNumber(sectors, uint64(s.place+part), 4)
		sectors = appendNumber(sectors, uint64(s.record), 4)
		sectors = appendNumber(sectors, uint64(part), 2)
		sectors = appendNumber(sectors, uint64(parts), 2)
		sectors = appendNumber(sectors, uint64(len(piece)), 2)
		sectors = append(sectors, piece...)
		sectors = append(sectors, make([]byte, partBytes-len(piece))...)
	}
	return sectors
}

func appendNumber(b []byte, n uint64, count int) []byte {
	for i := count - 1; i >= 0; i-- {
		b = append(b, byte(n>>(8*i)))
	}
	return b
}

// isRecord tells whether b, the bytes that the sectors tell of, is a record, and they are just its; of no bytes there are no sectors.
func isRecord(sectors []byte, s spot, b []byte) bool {
	return len(b) <= api.MaxRecord && bytes.Equal(sectors, sectorsOf(s, b))
}

// bytesTold answers the bytes that the sectors tell of, whether or not they are those of a record.
func bytesTold(sectors []byte) []byte {
	var b []byte
	for sector := range slices.Chunk(sectors, api.Sector) {
		b = append(b, sector[headBytes:headBytes+min(numberAt(sector, lengthAt), partBytes)]...)
	}
	return b
}

// numberAt answers the number of two bytes at a place of a sector.
func numberAt(sector []byte, at int) int {
	return int(sector[at])<<8 | int(sector[at+1])
}
