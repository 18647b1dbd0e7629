package stamp_test

import (
	"strings"
	"testing"

	"muniment/api"
	"muniment/stamp"
)

// P5.1: Write.

// Bytes that are written out: the chapter's example, and the edges of each field.
func TestWriteBytes(t *testing.T) {
	none := strings.Repeat("\xff", 8)
	for _, c := range []struct {
		space int
		name  string
		time  uint64
		want  string
	}{
		{1, "a", 5, "\x01a\x00\x00\xff\xff\xff\xff\xff\xff\xff\xfa"},
		{0, "", 0, "\x00\x00\x00" + none},
		{255, "", 0, "\xff\x00\x00" + none},
		{7, "b", 0, "\x07b\x00\x00" + none},
		{7, "b", 1, "\x07b\x00\x00\xff\xff\xff\xff\xff\xff\xff\xfe"},
		{7, "b", 255, "\x07b\x00\x00\xff\xff\xff\xff\xff\xff\xff\x00"},
		{7, "b", 256, "\x07b\x00\x00\xff\xff\xff\xff\xff\xff\xfe\xff"},
		{7, "b", 0x0102030405060708, "\x07b\x00\x00\xfe\xfd\xfc\xfb\xfa\xf9\xf8\xf7"},
		{7, "b", 1<<63 - 1, "\x07b\x00\x00\x80\x00\x00\x00\x00\x00\x00\x00"},
		{7, "b", 1 << 63, "\x07b\x00\x00\x7f\xff\xff\xff\xff\xff\xff\xff"},
		{7, "b", latest - 1, "\x07b\x00\x00\x00\x00\x00\x00\x00\x00\x00\x01"},
		{7, "b", latest, "\x07b\x00\x00\x00\x00\x00\x00\x00\x00\x00\x00"},
		{2, "\x00", 0, "\x02\x00\xff\x00\x00" + none},
		{2, "\x00\x00", 0, "\x02\x00\xff\x00\xff\x00\x00" + none},
		{2, "a\x00", 0, "\x02a\x00\xff\x00\x00" + none},
		{2, "\x00a", 0, "\x02\x00\xffa\x00\x00" + none},
		{2, "a\x00b", 0, "\x02a\x00\xffb\x00\x00" + none},
		{2, "\x00\x01", 0, "\x02\x00\xff\x01\x00\x00" + none},
		{2, "\x00\xff", 0, "\x02\x00\xff\xff\x00\x00" + none},
		{2, "\xff\x00", 0, "\x02\xff\x00\xff\x00\x00" + none},
		{2, "\x01", 0, "\x02\x01\x00\x00" + none},
		{2, "\xff", 0, "\x02\xff\x00\x00" + none},
		{2, strings.Repeat("x", 200), 0, "\x02" + strings.Repeat("x", 200) + "\x00\x00" + none},
		{2, strings.Repeat("\x00", 200), 0, "\x02" + strings.Repeat("\x00\xff", 200) + "\x00\x00" + none},
		{2, strings.Repeat("\xff", 200), 0, "\x02" + strings.Repeat("\xff", 200) + "\x00\x00" + none},
	} {
		wantWritten(t, keyOf(c.space, c.name, c.time), c.want)
		if b := bytesOf(c.space, c.name, c.time); b != c.want {
			t.Errorf("the tests expect % x of %d %q %d, which isn't what is written out", b, c.space, c.name, c.time)
		}
	}
}

func TestWriteAllSpaces(t *testing.T) {
	for space := range 256 {
		wantWritten(t, keyOf(space, "a\x00", 5), bytesOf(space, "a\x00", 5))
		wantWritten(t, stamp.Key{Space: space}, bytesOf(space, "", 0))
	}
}

func TestWriteEdges(t *testing.T) {
	for _, space := range edgeSpaces() {
		for _, name := range edgeNames() {
			for _, time := range edgeTimes() {
				wantWritten(t, keyOf(space, name, time), bytesOf(space, name, time))
			}
		}
	}
}

// Every byte, and every length up to MaxKey.
func TestWriteNames(t *testing.T) {
	for c := range 256 {
		s := string([]byte{byte(c)})
		for _, name := range []string{s, s + s, "\x00" + s, s + "\x00", "a" + s + "b"} {
			wantWritten(t, keyOf(3, name, 9), bytesOf(3, name, 9))
		}
		for n := range api.MaxKey + 1 {
			name := strings.Repeat(s, n)
			wantWritten(t, keyOf(3, name, 9), bytesOf(3, name, 9))
		}
	}
}

// Every byte of a time, one at a time.
func TestWriteTimes(t *testing.T) {
	for shift := range 64 {
		for _, time := range []uint64{1 << shift, 1<<shift - 1, 1<<shift + 1, 0xa5 << shift, latest - 1<<shift, latest << shift} {
			wantWritten(t, keyOf(3, "a", time), bytesOf(3, "a", time))
		}
	}
}

// A list of none may be nil or empty, and means the same.
func TestWriteNameOfNone(t *testing.T) {
	for _, name := range [][]byte{nil, {}, make([]byte, 0, 5)} {
		wantWritten(t, stamp.Key{Space: 4, Name: name, Time: 3}, bytesOf(4, "", 3))
	}
}

func TestWriteSpacesThatMayNotBe(t *testing.T) {
	for _, space := range farSpaces() {
		for _, name := range append(edgeNames(), longNames()...) {
			wantWriteError(t, keyOf(space, name, 5), api.ErrArg)
		}
		wantWriteError(t, stamp.Key{Space: space}, api.ErrArg)
	}
}

func TestWriteNamesTooLong(t *testing.T) {
	for _, name := range longNames() {
		for _, space := range edgeSpaces() {
			for _, time := range []uint64{0, 5, latest} {
				wantWriteError(t, keyOf(space, name, time), api.ErrLong)
			}
		}
	}
}
