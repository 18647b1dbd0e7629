package stamp_test

import (
	"bytes"
	"math/rand"
	"testing"

	"muniment/api"
	"muniment/stamp"
)

// P5.3: bytes are ordered as keys are, and what is written is read.

func written(t *testing.T, k stamp.Key) []byte {
	t.Helper()
	b, err := stamp.Write(k)
	if err != api.OK {
		t.Fatalf("Write(%s): error %d", told(k), err)
	}
	return b
}

func wantOrdered(t *testing.T, a, b stamp.Key) {
	t.Helper()
	c := comparedOf(a, b)
	wantCompared(t, a, b, c)
	wa, wb := written(t, a), written(t, b)
	if bytes.Compare(wa, wb) != c {
		t.Errorf("%s, %s: %d, but their bytes are % x, % x", told(a), told(b), c, wa, wb)
	}
	if c != 0 && (bytes.HasPrefix(wa, wb) || bytes.HasPrefix(wb, wa)) {
		t.Errorf("%s, %s: of their bytes one is the other's beginning: % x, % x", told(a), told(b), wa, wb)
	}
}

func wantBack(t *testing.T, k stamp.Key) {
	t.Helper()
	b := written(t, k)
	wantRead(t, string(b), k)
	l, _ := stamp.Read(b)
	if again := written(t, l); !bytes.Equal(again, b) {
		t.Errorf("%s: % x, and % x once it was read", told(k), b, again)
	}
}

func TestBytesOfEdgesAreOrdered(t *testing.T) {
	for _, name := range edgeNames() {
		for _, other := range edgeNames() {
			for _, times := range [][2]uint64{{5, 5}, {0, latest}, {latest, 0}, {1 << 63, 1<<63 - 1}} {
				wantOrdered(t, keyOf(1, name, times[0]), keyOf(1, other, times[1]))
				wantOrdered(t, keyOf(0, name, times[0]), keyOf(255, other, times[1]))
			}
		}
	}
	for _, space := range edgeSpaces() {
		for _, other := range edgeSpaces() {
			wantOrdered(t, keyOf(space, "a", 5), keyOf(other, "a", 5))
			wantOrdered(t, keyOf(space, "", latest), keyOf(other, "\xff", 0))
		}
	}
	for _, time := range edgeTimes() {
		for _, other := range edgeTimes() {
			wantOrdered(t, keyOf(1, "a", time), keyOf(1, "a", other))
			wantOrdered(t, keyOf(1, "a", time), keyOf(1, "a\x00", other))
		}
	}
}

// All names of few bytes, and those that follow bytes of each kind.
func TestBytesOfAllNamesAreOrdered(t *testing.T) {
	names := smallNames("\x00\x01a\xff", 4)
	for _, name := range names {
		for _, other := range names {
			wantOrdered(t, keyOf(1, name, 0), keyOf(1, other, latest))
			wantOrdered(t, keyOf(1, name, latest), keyOf(1, other, 0))
		}
	}
}

func TestBytesOfManyAreOrdered(t *testing.T) {
	r := rand.New(rand.NewSource(7))
	for range 100000 {
		a := keyOf(r.Intn(256), drawnName(r, 6), drawnTime(r))
		b := keyOf(r.Intn(256), drawnName(r, 6), drawnTime(r))
		if r.Intn(4) > 0 {
			b.Space = a.Space
		}
		if r.Intn(4) == 0 {
			b.Name = a.Name
		}
		wantOrdered(t, a, b)
	}
}

func TestWrittenIsRead(t *testing.T) {
	for space := range 256 {
		wantBack(t, keyOf(space, "a\x00", 5))
	}
	for _, space := range edgeSpaces() {
		for _, name := range append(edgeNames(), smallNames("\x00\x01\xff", 5)...) {
			for _, time := range edgeTimes() {
				wantBack(t, keyOf(space, name, time))
			}
		}
	}
	for shift := range 64 {
		wantBack(t, keyOf(1, "a", 1<<shift))
		wantBack(t, keyOf(1, "a", latest-1<<shift))
	}
}

func TestManyWrittenAreRead(t *testing.T) {
	r := rand.New(rand.NewSource(8))
	for range 50000 {
		wantBack(t, keyOf(r.Intn(256), drawnName(r, 200), drawnTime(r)))
	}
}
