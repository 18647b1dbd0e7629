package stamp

import (
	"math"

	"muniment/api"
)

// A space is one byte.
const maxSpace = 255

// What stands behind a 0. Behind a name it is less than behind a 0 of the name's own, so that a name's beginning goes ahead of it; what is behind all of a name's keys lies between the two.
const (
	end     = 0   // of the name
	behind  = 1   // in no key
	another = 255 // the 0 is the name's own
)

const timeBytes = 8

// A time stands as what it lacks to the latest, so that the later one goes ahead.
const latest = math.MaxUint64

// appendName answers new memory: the space, the name's bytes, and a 0 with last behind it.
func appendName(space int, name []byte, last byte) []byte {
	b := []byte{byte(space)}
	for _, c := range name {
		b = append(b, c)
		if c == 0 {
			b = append(b, another)
		}
	}
	return append(b, 0, last)
}

func appendTime(b []byte, time uint64) []byte {
	lack := latest - time
	for shift := 8 * (timeBytes - 1); shift >= 0; shift -= 8 {
		b = append(b, byte(lack>>shift))
	}
	return b
}

// readName answers the name that b begins with, and what stands behind its end. It reads no more than a name may have, as b may be far longer.
func readName(b []byte) (name, rest []byte, ok bool) {
	for len(name) <= api.MaxKey && len(b) > 0 {
		c := b[0]
		b = b[1:]
		if c == 0 {
			if len(b) == 0 || b[0] != end && b[0] != another {
				return nil, nil, false
			}
			mark := b[0]
			b = b[1:]
			if mark == end {
				return name, b, true
			}
		}
		name = append(name, c)
	}
	return nil, nil, false
}

// readTime leans on b having just timeBytes bytes.
func readTime(b []byte) uint64 {
	var lack uint64
	for _, c := range b {
		lack = lack<<8 + uint64(c)
	}
	return latest - lack
}
