package disk

import (
	"muniment/api"
)

const maxSectors = 65536

// A sector is an array, so that whoever has it shares no memory with the disk.
type sector [api.Sector]byte

// A write is kept whole until a sync, as a cut may keep it and forget the later ones of the same sector.
type write struct {
	n     int
	bytes sector
}

// writeOf leans on b having the bytes of a sector.
func writeOf(n int, b []byte) write {
	w := write{n: n}
	copy(w.bytes[:], b)
	return w
}

func (d *Disk) has(n int) bool {
	return n >= 0 && n < d.size
}

func (d *Disk) bytesOf(n int) sector {
	if i, ok := d.newest[n]; ok {
		return d.pending[i].bytes
	}
	return d.lasting[n]
}

// spend tells whether one more act may be done. Where the fuse is used up, the disk is down from there on.
func (d *Disk) spend() bool {
	if !d.fused {
		return true
	}
	if d.left == 0 {
		d.down = true
		return false
	}
	d.left--
	return true
}
