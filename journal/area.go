package journal

import (
	"muniment/api"
	"muniment/disk"
)

// An area is where a journal lies on a disk.
type area struct {
	d     *disk.Disk
	from  int
	count int
}

// isArea asks for count by what is left behind from, as their sum may pass the greatest number.
func isArea(d *disk.Disk, from, count int) bool {
	return from >= 0 && count >= 0 && count <= d.Size()-from
}

func (a area) read(place int) ([]byte, api.Errno) {
	return a.d.Read(a.from + place)
}

func (a area) write(place int, sector []byte) api.Errno {
	return a.d.Write(a.from+place, sector)
}

// record answers the record that begins at a spot; none, where the sectors there aren't just those of a record, or are too few.
func (a area) record(s spot) ([]byte, api.Errno) {
	if s.place >= a.count {
		return nil, api.OK
	}
	sectors, err := a.read(s.place)
	if err != api.OK {
		return nil, err
	}
	parts := numberAt(sectors, partsAt)
	if parts > a.count-s.place {
		return nil, api.OK
	}
	for part := 1; part < parts; part++ {
		sector, err := a.read(s.place + part)
		if err != api.OK {
			return nil, err
		}
		sectors = append(sectors, sector...)
	}
	record := bytesTold(sectors)
	if !isRecord(sectors, s, record) {
		return nil, api.OK
	}
	return record, api.OK
}
