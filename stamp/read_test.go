package stamp_test

import (
	"math/rand"
	"strings"
	"testing"

	"muniment/api"
	"muniment/stamp"
)

// P5.1: Read.

// Keys of bytes that are written out.
func TestReadBytes(t *testing.T) {
	none := strings.Repeat("\xff", 8)
	for b, want := range map[string]stamp.Key{
		"\x01a\x00\x00\xff\xff\xff\xff\xff\xff\xff\xfa":              keyOf(1, "a", 5),
		"\x00\x00\x00" + none:                                        {},
		"\xff\x00\x00" + none:                                        keyOf(255, "", 0),
		"\x00\x00\x00\x00\x00\x00\x00\x00\x00\x00\x00":               keyOf(0, "", latest),
		"\x05\x00\x00\x00\x00\x00\x00\x00\x00\x00\x01":               keyOf(5, "", latest-1),
		"\x05b\x00\x00\x80\x00\x00\x00\x00\x00\x00\x00":              keyOf(5, "b", 1<<63-1),
		"\x05b\x00\x00\x7f\xff\xff\xff\xff\xff\xff\xff":              keyOf(5, "b", 1<<63),
		"\x05b\x00\x00\x01\x02\x03\x04\x05\x06\x07\x08":              keyOf(5, "b", 0xfefdfcfbfaf9f8f7),
		"\x05\x00\xff\x00\x00" + none:                                keyOf(5, "\x00", 0),
		"\x05\x00\xff\xff\x00\x00" + none:                            keyOf(5, "\x00\xff", 0),
		"\x05\xff\x00\xff\x00\x00" + none:                            keyOf(5, "\xff\x00", 0),
		"\x05\x01\x00\xff\x01\x00\x00" + none:                        keyOf(5, "\x01\x00\x01", 0),
		"\x05\x00\x00\x00\xff\x00\xff\x00\xff\x00\xff":               keyOf(5, "", 0xff00ff00ff00ff00),
		"\x05" + strings.Repeat("x", 200) + "\x00\x00" + none:        keyOf(5, strings.Repeat("x", 200), 0),
		"\x05" + strings.Repeat("\x00\xff", 200) + "\x00\x00" + none: keyOf(5, strings.Repeat("\x00", 200), 0),
	} {
		wantRead(t, b, want)
	}
}

// Wherever a key's bytes are cut off, nothing is left that is a key.
func TestReadCutOff(t *testing.T) {
	wantBad(t, "")
	if _, err := stamp.Read(nil); err != api.ErrBad {
		t.Errorf("Read(nil): error %d", err)
	}
	for _, name := range edgeNames() {
		for _, time := range []uint64{0, 5, 1 << 63, latest - 1, latest} {
			for _, space := range []int{0, 1, 255} {
				b := bytesOf(space, name, time)
				for n := range len(b) {
					wantBad(t, b[:n])
				}
			}
		}
	}
}

// Fewer or more than eight bytes behind the name.
func TestReadTimesTooShortOrTooLong(t *testing.T) {
	for _, name := range edgeNames() {
		for _, c := range []string{"\x00", "\x01", "a", "\xff"} {
			for n := range 40 {
				if n != 8 {
					wantBad(t, firstOf(6, name)+strings.Repeat(c, n))
				}
			}
			wantBad(t, bytesOf(6, name, 5)+c)
			wantBad(t, bytesOf(6, name, 5)+bytesOf(6, name, 5))
			wantBad(t, firstOf(6, name)+strings.Repeat(c, 70000))
		}
	}
}

// What else may follow a 0 in a name.
func TestReadMarks(t *testing.T) {
	for c := 1; c < 255; c++ {
		mark := "\x00" + string([]byte{byte(c)})
		for _, name := range []string{"", "a", "\x00\xff", "\xff", strings.Repeat("x", 198), strings.Repeat("x", 199), strings.Repeat("x", 200)} {
			for _, rest := range []string{"", "\x00\x00", "b\x00\x00", "\xff\x00\x00", "\x00\xff\x00\x00"} {
				wantBad(t, "\x01"+name+mark+rest+"\xff\xff\xff\xff\xff\xff\xff\xfa")
			}
			wantBad(t, "\x01"+name+mark)
		}
	}
}

// What Behind answers is no key's beginning.
func TestReadBehind(t *testing.T) {
	for _, name := range edgeNames() {
		wantBad(t, behindOf(1, name))
		wantBad(t, behindOf(1, name)+"\xff\xff\xff\xff\xff\xff\xff\xfa")
		wantBad(t, behindOf(1, name)+"\x00\x00\xff\xff\xff\xff\xff\xff\xff\xfa")
	}
}

func TestReadNamesTooLong(t *testing.T) {
	for _, name := range longNames() {
		for _, time := range []uint64{0, 5, latest} {
			wantBad(t, bytesOf(1, name, time))
		}
		wantBad(t, firstOf(1, name))
		wantBad(t, "\x01"+name)
	}
}

// wantAsTold holds Read against the way of telling that the tests have.
func wantAsTold(t *testing.T, b string) bool {
	t.Helper()
	space, name, time, ok := readOf(b)
	if !ok {
		wantBad(t, b)
		return false
	}
	wantRead(t, b, keyOf(space, name, time))
	return true
}

// All bytes of a small alphabet, around the least length.
func TestReadAllShort(t *testing.T) {
	keys := 0
	for _, b := range smallNames("\x00\x01\xff", 6) {
		for _, time := range []string{"", "\x00", "\xff\xff\xff\xff\xff\xff\xff", "\x00\x00\x00\x00\x00\x00\x00\x00", "\xff\x00\xff\x00\xff\x00\xff\x00", "\x01\x00\x00\xff\xff\xff\xff\xff", "\x00\x00\xff\xff\xff\xff\xff\xff\xff\xff"} {
			if wantAsTold(t, b+time) {
				keys++
			}
			wantAsTold(t, "a"+b+time)
			wantAsTold(t, b+"a"+time)
			wantAsTold(t, "\x01"+strings.Repeat("x", 197)+b+time)
			wantAsTold(t, "\x01"+strings.Repeat("\x00\xff", 198)+b+time)
		}
	}
	if keys < 100 {
		t.Errorf("only %d keys were among these", keys)
	}
}

// Bytes that were a key's, till some of them were spoilt.
func TestReadSpoilt(t *testing.T) {
	r := rand.New(rand.NewSource(5))
	keys := 0
	for range 100000 {
		b := []byte(bytesOf(r.Intn(256), drawnName(r, 1+r.Intn(8)), drawnTime(r)))
		for range 1 + r.Intn(3) {
			i := r.Intn(len(b))
			switch r.Intn(3) {
			case 0:
				b[i] = "\x00\x01a\xff"[r.Intn(4)]
			case 1:
				b = append(b[:i], b[i+1:]...)
			case 2:
				b = append(b[:i], append([]byte{"\x00\x01a\xff"[r.Intn(4)]}, b[i:]...)...)
			}
		}
		if wantAsTold(t, string(b)) {
			keys++
		}
	}
	if keys < 1000 || keys > 99000 {
		t.Errorf("%d of these were keys", keys)
	}
}
