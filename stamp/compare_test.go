package stamp_test

import (
	"cmp"
	"math/rand"
	"slices"
	"strings"
	"testing"

	"muniment/stamp"
)

// P5.1: Compare.

// comparedOf is the order of keys once more, told in another way.
func comparedOf(a, b stamp.Key) int {
	if a.Space != b.Space {
		return cmp.Compare(a.Space, b.Space)
	}
	if string(a.Name) != string(b.Name) {
		return strings.Compare(string(a.Name), string(b.Name))
	}
	return cmp.Compare(b.Time, a.Time)
}

func TestCompareOfFew(t *testing.T) {
	for _, c := range []struct {
		a, b stamp.Key
		want int
	}{
		{keyOf(1, "a", 6), keyOf(1, "a", 5), -1},
		{keyOf(1, "a", 5), keyOf(1, "a", 5), 0},
		{keyOf(1, "a", 5), keyOf(1, "a\x00", 9), -1},
		{keyOf(1, "a", 5), keyOf(1, "a\x00", 1), -1},
		{keyOf(1, "b", 5), keyOf(2, "a", 6), -1},
		{keyOf(1, "b", 5), keyOf(2, "b", 6), -1},
		{keyOf(1, "b", 5), keyOf(2, "b", 4), -1},
		{keyOf(1, "a", 5), keyOf(1, "b", 6), -1},
		{keyOf(1, "a", 5), keyOf(1, "b", 4), -1},
		{keyOf(1, "", 5), keyOf(1, "\x00", 5), -1},
		{keyOf(1, "ab", 5), keyOf(1, "b", 5), -1},
		{keyOf(1, "\x7f", 5), keyOf(1, "\x80", 5), -1},
		{keyOf(1, "\x00", 5), keyOf(1, "\xff", 5), -1},
		{keyOf(1, "a", latest), keyOf(1, "a", 0), -1},
		{keyOf(1, "a", 1<<63), keyOf(1, "a", 1<<63-1), -1},
		{keyOf(1, "a", 1), keyOf(1, "a", 0), -1},
		{keyOf(127, "a", 1), keyOf(128, "a", 1), -1},
		{keyOf(-1, "a", 1), keyOf(0, "a", 1), -1},
		{keyOf(-1, "a", 1), keyOf(255, "a", 1), -1},
		{keyOf(255, "a", 1), keyOf(256, "a", 1), -1},
		{keyOf(1, "a", 1), keyOf(256, "a", 1), -1},
		{keyOf(-1<<63, "a", 1), keyOf(1<<63-1, "a", 1), -1},
		{keyOf(-1, "", 7), keyOf(-1, "", 7), 0},
		{stamp.Key{}, stamp.Key{}, 0},
	} {
		wantCompared(t, c.a, c.b, c.want)
	}
}

// Spaces first, below 0 and above 255 too, then names, longer than MaxKey too, then times, the later one first.
func TestCompareOfRising(t *testing.T) {
	spaces := append(farSpaces(), edgeSpaces()...)
	slices.Sort(spaces)
	for i, a := range spaces {
		for k, b := range spaces[:i] {
			for _, times := range [][2]uint64{{5, 5}, {0, latest}, {latest, 0}} {
				wantCompared(t, keyOf(a, "a", times[0]), keyOf(b, "a", times[1]), cmp.Compare(i, k))
				wantCompared(t, keyOf(a, "a", times[0]), keyOf(b, "b", times[1]), cmp.Compare(i, k))
				wantCompared(t, keyOf(a, "b", times[0]), keyOf(b, "a", times[1]), cmp.Compare(i, k))
			}
		}
	}
	names := edgeNames()
	for i, a := range names {
		for k, b := range names {
			for _, times := range [][2]uint64{{5, 5}, {0, latest}, {latest, 0}} {
				want := cmp.Compare(i, k)
				if i == k {
					want = cmp.Compare(times[1], times[0])
				}
				wantCompared(t, keyOf(9, a, times[0]), keyOf(9, b, times[1]), want)
				wantCompared(t, keyOf(-9, a, times[0]), keyOf(-9, b, times[1]), want)
			}
		}
	}
	for i, a := range edgeTimes() {
		for k, b := range edgeTimes() {
			wantCompared(t, keyOf(9, "a", a), keyOf(9, "a", b), cmp.Compare(k, i))
			wantCompared(t, keyOf(300, "", a), keyOf(300, "", b), cmp.Compare(k, i))
		}
	}
}

func TestCompareOfLongNames(t *testing.T) {
	long := append(longNames(), edgeNames()...)
	for _, a := range long {
		for _, b := range long {
			wantCompared(t, keyOf(1, a, 5), keyOf(1, b, 6), comparedOf(keyOf(1, a, 5), keyOf(1, b, 6)))
		}
	}
	x := strings.Repeat("x", 100000)
	wantCompared(t, keyOf(1, x+"a", 5), keyOf(1, x+"b", 5), -1)
	wantCompared(t, keyOf(1, x, 5), keyOf(1, x+"\x00", 5), -1)
	wantCompared(t, keyOf(1, x, 5), keyOf(1, x, 4), -1)
	wantCompared(t, keyOf(1, x, 5), keyOf(1, x, 5), 0)
}

func TestCompareOfMany(t *testing.T) {
	r := rand.New(rand.NewSource(6))
	alike := 0
	for range 100000 {
		a := keyOf(r.Intn(5)-2, drawnName(r, 2), drawnTime(r))
		b := keyOf(r.Intn(5)-2, drawnName(r, 2), drawnTime(r))
		if r.Intn(2) == 0 {
			b.Space = a.Space
		}
		wantCompared(t, a, b, comparedOf(a, b))
		if comparedOf(a, b) == 0 {
			alike++
		}
	}
	if alike < 10 {
		t.Errorf("only %d pairs were alike", alike)
	}
}

// A name of no bytes may be nil or empty.
func TestCompareOfNameOfNone(t *testing.T) {
	for _, name := range [][]byte{nil, {}, make([]byte, 0, 5)} {
		wantCompared(t, stamp.Key{Space: 4, Name: name, Time: 3}, keyOf(4, "", 3), 0)
		wantCompared(t, stamp.Key{Space: 4, Name: name, Time: 3}, keyOf(4, "", 2), -1)
		wantCompared(t, stamp.Key{Space: 4, Name: name, Time: 3}, keyOf(4, "\x00", 4), -1)
	}
}
