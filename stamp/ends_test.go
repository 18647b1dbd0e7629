package stamp_test

import (
	"strings"
	"testing"

	"muniment/api"
	"muniment/stamp"
)

// P5.2: First and Behind.

// Bytes that are written out.
func TestEndsBytes(t *testing.T) {
	for _, c := range []struct {
		space int
		name  string
		want  string
	}{
		{1, "a", "\x01a"},
		{0, "", "\x00"},
		{255, "", "\xff"},
		{0, "\x00", "\x00\x00\xff"},
		{1, "\x00\x00", "\x01\x00\xff\x00\xff"},
		{1, "a\x00", "\x01a\x00\xff"},
		{1, "a\x00b", "\x01a\x00\xffb"},
		{1, "\x01", "\x01\x01"},
		{1, "\xff", "\x01\xff"},
		{1, "\xff\x00\xff", "\x01\xff\x00\xff\xff"},
		{1, strings.Repeat("x", 200), "\x01" + strings.Repeat("x", 200)},
		{1, strings.Repeat("\x00", 200), "\x01" + strings.Repeat("\x00\xff", 200)},
	} {
		wantEnds(t, c.space, c.name, c.want+"\x00\x00", c.want+"\x00\x01")
	}
}

func TestEndsEdges(t *testing.T) {
	for space := range 256 {
		wantEnds(t, space, "a\x00b", firstOf(space, "a\x00b"), behindOf(space, "a\x00b"))
	}
	for _, space := range edgeSpaces() {
		for _, name := range append(edgeNames(), smallNames("\x00\x01\xff", 4)...) {
			wantEnds(t, space, name, firstOf(space, name), behindOf(space, name))
		}
	}
	for c := range 256 {
		for n := range api.MaxKey + 1 {
			name := strings.Repeat(string([]byte{byte(c)}), n)
			wantEnds(t, 8, name, firstOf(8, name), behindOf(8, name))
		}
	}
	for _, name := range [][]byte{nil, {}, make([]byte, 0, 5)} {
		if first, behind := stamp.First(3, name), stamp.Behind(3, name); string(first) != "\x03\x00\x00" || string(behind) != "\x03\x00\x01" {
			t.Errorf("no name: % x, % x", first, behind)
		}
	}
}

// Both are none, where Write would err.
func TestEndsOfNone(t *testing.T) {
	for _, space := range farSpaces() {
		for _, name := range append(edgeNames(), longNames()...) {
			wantEnds(t, space, name, "", "")
		}
	}
	for _, name := range longNames() {
		for _, space := range edgeSpaces() {
			wantEnds(t, space, name, "", "")
		}
	}
}

// wantAround holds the ends of one space and name against the bytes of another key: within just if it is of these.
func wantAround(t *testing.T, space int, name string, k stamp.Key) {
	t.Helper()
	written, err := stamp.Write(k)
	if err != api.OK {
		t.Fatalf("Write(%s): error %d", told(k), err)
	}
	b := string(written)
	first, behind := string(stamp.First(space, []byte(name))), string(stamp.Behind(space, []byte(name)))
	one := k.Space == space && string(k.Name) == name
	if strings.HasPrefix(b, first) != one {
		t.Errorf("First(%d, %q): % x, and % x of %s", space, name, first, b, told(k))
	}
	if strings.HasPrefix(b, behind) {
		t.Errorf("Behind(%d, %q): % x, the beginning of % x of %s", space, name, behind, b, told(k))
	}
	greater := k.Space > space || k.Space == space && string(k.Name) > name
	if (b > behind) != greater || (b > first) != (one || greater) || b == behind || b == first {
		t.Errorf("First, Behind(%d, %q): % x, % x, and % x of %s", space, name, first, behind, b, told(k))
	}
	if first >= behind {
		t.Errorf("First, Behind(%d, %q): % x, % x", space, name, first, behind)
	}
}

// justBelow are names below, justAbove those above: between the name and the nearest of them there is none.
func justBelow(name string) []string {
	if name == "" {
		return nil
	}
	last := len(name) - 1
	l := []string{"", name[:last]}
	if name[last] > 0 {
		less := name[:last] + string([]byte{name[last] - 1})
		l = append(l, less, less+strings.Repeat("\xff", api.MaxKey-len(less)))
		if len(less) < api.MaxKey {
			l = append(l, less+"\x00", less+"\xff")
		}
	}
	return l
}

func justAbove(name string) []string {
	var l []string
	if len(name) < api.MaxKey {
		l = append(l, name+"\x00", name+"\x01", name+"\xff", name+strings.Repeat("\x00", api.MaxKey-len(name)))
	}
	if last := len(name) - 1; last >= 0 && name[last] < 255 {
		l = append(l, name[:last]+string([]byte{name[last] + 1}))
	}
	return append(l, strings.Repeat("\xff", api.MaxKey))
}

func TestEndsAroundKeys(t *testing.T) {
	for _, name := range edgeNames() {
		for _, space := range []int{0, 1, 254, 255} {
			for _, time := range edgeTimes() {
				wantAround(t, space, name, keyOf(space, name, time))
			}
			for _, time := range []uint64{0, latest} {
				for _, other := range append(justBelow(name), justAbove(name)...) {
					wantAround(t, space, name, keyOf(space, other, time))
				}
				for _, other := range []string{name, "", "\x00", "a", strings.Repeat("\xff", 200)} {
					wantAround(t, space, name, keyOf(max(space-1, 0), other, time))
					wantAround(t, space, name, keyOf(min(space+1, 255), other, time))
					wantAround(t, space, name, keyOf(255-space, other, time))
				}
			}
		}
	}
}

// All pairs of small names, and of those at the edges.
func TestEndsAroundAllNames(t *testing.T) {
	names := append(smallNames("\x00\x01\xff", 4), edgeNames()...)
	for _, name := range names {
		for _, other := range names {
			wantAround(t, 1, name, keyOf(1, other, 0))
			wantAround(t, 1, name, keyOf(1, other, latest))
		}
	}
}

// The ends of one name are as the name is to those of another.
func TestEndsRise(t *testing.T) {
	for _, a := range edgeNames() {
		for _, b := range edgeNames() {
			if a < b && string(stamp.Behind(2, []byte(a))) >= string(stamp.First(2, []byte(b))) {
				t.Errorf("Behind(2, %q) isn't below First(2, %q)", a, b)
			}
		}
	}
	for space := range 255 {
		if string(stamp.Behind(space, []byte(strings.Repeat("\xff", 200)))) >= string(stamp.First(space+1, nil)) {
			t.Errorf("space %d ends behind the beginning of the next", space)
		}
	}
}
