package stamp_test

import (
	"strings"
	"testing"

	"muniment/api"
	"muniment/stamp"
)

// R5: what is handed in is left as it is, its spare room too, and isn't kept; what is answered is new memory.

// bytesWithRoom are the bytes of s with spare room, in which something stands.
func bytesWithRoom(s string) []byte {
	return []byte(s + "\x00\x01room\x00\xff")[:len(s)]
}

// whole are b's bytes, and those in its spare room.
func whole(b []byte) string {
	return string(b[:cap(b)])
}

func spoil(b []byte) {
	b = b[:cap(b)]
	for i := range b {
		b[i] = 77
	}
}

func TestMemoryOfWrite(t *testing.T) {
	for _, name := range append(edgeNames(), longNames()...) {
		for _, space := range []int{-1, 0, 5, 255, 256} {
			k := stamp.Key{Space: space, Name: bytesWithRoom(name), Time: 5}
			before := whole(k.Name)
			b, err := stamp.Write(k)
			again, _ := stamp.Write(k)
			if whole(k.Name) != before {
				t.Errorf("Write(%s): the name has changed", told(k))
			}
			spoil(again)
			spoil(k.Name)
			if err == api.OK && string(b) != bytesOf(space, name, 5) {
				t.Errorf("Write(%d %q 5): the answer hangs on the name, or on another answer: % x", space, name, b)
			}
		}
	}
}

func TestMemoryOfRead(t *testing.T) {
	for _, name := range append(edgeNames(), longNames()...) {
		for _, rest := range []string{"", "\xff\xff\xff\xff\xff\xff\xff\xfa", "\xff\xff\xff\xff\xff\xff\xff\xfa."} {
			b := bytesWithRoom(firstOf(5, name) + rest)
			before := whole(b)
			k, err := stamp.Read(b)
			again, _ := stamp.Read(b)
			if whole(b) != before {
				t.Errorf("Read(% x): the bytes have changed", before)
			}
			spoil(again.Name)
			spoil(b)
			if err == api.OK && !sameKey(k, keyOf(5, name, 5)) {
				t.Errorf("Read(% x): the answer hangs on the bytes, or on another answer: %s", before, told(k))
			}
		}
	}
	for _, s := range []string{"", "\x01", "\x01a\x00", "\x01a\x00\x01\x00\x00", "\x01\x00\xff\x00"} {
		b := bytesWithRoom(s)
		before := whole(b)
		stamp.Read(b)
		if whole(b) != before {
			t.Errorf("Read(% x): the bytes have changed", s)
		}
	}
}

// An answer's name may be written over, spare room too, and the bytes stay.
func TestMemoryOfReadBytes(t *testing.T) {
	for _, name := range edgeNames() {
		b := bytesWithRoom(bytesOf(5, name, 5))
		before := whole(b)
		k, _ := stamp.Read(b)
		spoil(k.Name)
		if whole(b) != before {
			t.Errorf("Read(% x): the answer's name is a piece of the bytes", before)
		}
	}
}

func TestMemoryOfCompare(t *testing.T) {
	for _, name := range append(edgeNames(), longNames()...) {
		a := stamp.Key{Space: 5, Name: bytesWithRoom(name), Time: 5}
		b := stamp.Key{Space: 5, Name: bytesWithRoom("a\x00"), Time: 6}
		before, other := whole(a.Name), whole(b.Name)
		wantCompared(t, a, b, comparedOf(a, b))
		wantCompared(t, a, a, 0)
		if whole(a.Name) != before || whole(b.Name) != other {
			t.Errorf("Compare(%s, %s): a name has changed", told(a), told(b))
		}
	}
}

func TestMemoryOfEnds(t *testing.T) {
	for _, name := range append(edgeNames(), longNames()...) {
		for _, space := range []int{-1, 0, 5, 255, 256} {
			b := bytesWithRoom(name)
			before := whole(b)
			first, behind := stamp.First(space, b), stamp.Behind(space, b)
			if whole(b) != before {
				t.Errorf("First, Behind(%d, %q): the name has changed", space, name)
			}
			spoil(stamp.First(space, b))
			spoil(stamp.Behind(space, b))
			spoil(b)
			if len(first) > 0 && (string(first) != firstOf(space, name) || string(behind) != behindOf(space, name)) {
				t.Errorf("First, Behind(%d, %q): an answer hangs on the name, or on another answer: % x, % x", space, name, first, behind)
			}
			spoil(first)
			if len(behind) > 0 && string(behind) != behindOf(space, name) {
				t.Errorf("Behind(%d, %q): the answer hangs on First's: % x", space, name, behind)
			}
		}
	}
}

// R7: no call hangs on those before it.
func TestCallsAgain(t *testing.T) {
	k, l := keyOf(1, "a", 5), keyOf(1, "a\x00", 9)
	for range 3 {
		wantWritten(t, k, "\x01a\x00\x00\xff\xff\xff\xff\xff\xff\xff\xfa")
		wantWriteError(t, keyOf(256, "a", 5), api.ErrArg)
		wantWriteError(t, keyOf(1, strings.Repeat("a", 201), 5), api.ErrLong)
		wantBad(t, "\x01a\x00\x01\xff\xff\xff\xff\xff\xff\xff\xfa")
		wantRead(t, bytesOf(1, "a\x00", 9), l)
		wantCompared(t, k, l, -1)
		wantEnds(t, 1, "a", "\x01a\x00\x00", "\x01a\x00\x01")
		wantEnds(t, -1, "a", "", "")
	}
}
