package stamp_test

import (
	"encoding/binary"
	"math/rand"
	"strconv"
	"strings"
	"testing"

	"muniment/api"
	"muniment/stamp"
)

// What the tests of this package share. Names are written as texts.

const latest = 1<<64 - 1

func keyOf(space int, name string, time uint64) stamp.Key {
	return stamp.Key{Space: space, Name: []byte(name), Time: time}
}

// edgeSpaces are those that may be, rising.
func edgeSpaces() []int {
	return []int{0, 1, 2, 127, 128, 254, 255}
}

// farSpaces are those that may not be, rising; the last bytes of some would do.
func farSpaces() []int {
	return []int{-1 << 63, -1<<63 + 1, -1<<32 + 5, -1 << 32, -256, -255, -2, -1, 256, 257, 511, 512, 65536, 1 << 31, 1 << 32, 1<<32 + 5, 1<<63 - 256, 1<<63 - 1}
}

// edgeTimes rise.
func edgeTimes() []uint64 {
	return []uint64{0, 1, 2, 5, 255, 256, 1<<32 - 1, 1 << 32, 0x0102030405060708, 1<<63 - 1, 1 << 63, 1<<63 + 1, latest - 1, latest}
}

// edgeNames rise: those with bytes 0, 1 and 255, of which one is the other's beginning, and of MaxKey bytes, or nearly.
func edgeNames() []string {
	z, x, f := strings.Repeat("\x00", 200), strings.Repeat("x", 200), strings.Repeat("\xff", 200)
	return []string{
		"", "\x00", "\x00\x00", "\x00\x00\x00", z[:199], z, z[:199] + "\x01", z[:199] + "\xff", "\x00\x01", "\x00\x01\x00", "\x00a", "\x00\xff", "\x00\xff\x00", "\x00\xff\xff",
		"\x01", "\x01\x00", "\x01\x00\x00", "\x01\x01", "\x01\xff", "\x02", "10", "9", "A",
		"a", "a\x00", "a\x00\x00", "a\x00\x00b", "a\x00\x01", "a\x00b", "a\x00\xff", "a\x01", "a\x01\x00", "aa", "ab", "a\xff", "a\xff\x00", "a\xff\xff", "b",
		x[:199], x[:199] + "\x00", x[:199] + "w", x, x[:199] + "y", x[:199] + "\xff", x[:198] + "y", "y",
		"\xfe", "\xfe\xff", "\xff", "\xff\x00", "\xff\x00\x00", "\xff\x00\xff", "\xff\x01", "\xff\xfe", "\xff\xff", "\xff\xff\x00", f[:199], f[:199] + "\x00", f[:199] + "\xfe", f,
	}
}

// longNames are those of more than MaxKey bytes.
func longNames() []string {
	var l []string
	for _, c := range []string{"\x00", "\x01", "x", "\xff"} {
		for _, n := range []int{201, 202, 255, 256, 400, 1000, 70000} {
			l = append(l, strings.Repeat(c, n))
		}
	}
	return append(l, strings.Repeat("x", 200)+"\x00")
}

// smallNames are all of up to that many bytes of the alphabet, rising, if that does.
func smallNames(alphabet string, most int) []string {
	l := []string{""}
	if most == 0 {
		return l
	}
	for i := range alphabet {
		for _, rest := range smallNames(alphabet, most-1) {
			l = append(l, alphabet[i:i+1]+rest)
		}
	}
	return l
}

// bytesOf are a key's bytes: the chapter's words once more, told in another way.
func bytesOf(space int, name string, time uint64) string {
	return firstOf(space, name) + string(binary.BigEndian.AppendUint64(nil, ^time))
}

func firstOf(space int, name string) string {
	return string([]byte{byte(space)}) + strings.ReplaceAll(name, "\x00", "\x00\xff") + "\x00\x00"
}

func behindOf(space int, name string) string {
	first := firstOf(space, name)
	return first[:len(first)-1] + "\x01"
}

// readOf reads what bytesOf writes; what it finds is right just if it is written so.
func readOf(b string) (space int, name string, time uint64, ok bool) {
	if len(b) < 11 {
		return 0, "", 0, false
	}
	tail := len(b) - 8
	space, time = int(b[0]), ^binary.BigEndian.Uint64([]byte(b[tail:]))
	name = strings.ReplaceAll(b[1:tail-2], "\x00\xff", "\x00")
	return space, name, time, len(name) <= api.MaxKey && bytesOf(space, name, time) == b
}

// drawnName is a name of few bytes, so that two are often alike, or nearly.
func drawnName(r *rand.Rand, most int) string {
	var name []byte
	for range r.Intn(most + 1) {
		name = append(name, "\x00\x00\x00\x01a\xfe\xff\xff"[r.Intn(8)])
	}
	return string(name)
}

func drawnTime(r *rand.Rand) uint64 {
	if r.Intn(2) == 0 {
		return r.Uint64()
	}
	times := edgeTimes()
	return times[r.Intn(len(times))]
}

func told(k stamp.Key) string {
	name := strconv.Quote(string(k.Name))
	if len(name) > 300 {
		name = name[:300] + ".."
	}
	return strconv.Itoa(k.Space) + " " + name + " " + strconv.FormatUint(k.Time, 10)
}

func sameKey(a, b stamp.Key) bool {
	return a.Space == b.Space && string(a.Name) == string(b.Name) && a.Time == b.Time
}

func wantWritten(t *testing.T, k stamp.Key, want string) {
	t.Helper()
	b, err := stamp.Write(k)
	if err != api.OK || string(b) != want {
		t.Errorf("Write(%s): % x, error %d, want % x", told(k), b, err, want)
	}
}

func wantWriteError(t *testing.T, k stamp.Key, want api.Errno) {
	t.Helper()
	b, err := stamp.Write(k)
	if err != want || len(b) != 0 {
		t.Errorf("Write(%s): % x, error %d, want error %d and nothing beside it", told(k), b, err, want)
	}
}

func wantRead(t *testing.T, b string, want stamp.Key) {
	t.Helper()
	k, err := stamp.Read([]byte(b))
	if err != api.OK || !sameKey(k, want) {
		t.Errorf("Read(% x): %s, error %d, want %s", b, told(k), err, told(want))
	}
}

func wantBad(t *testing.T, b string) {
	t.Helper()
	k, err := stamp.Read([]byte(b))
	if err != api.ErrBad || !sameKey(k, stamp.Key{}) {
		t.Errorf("Read(% x): %s, error %d, want error %d and nothing beside it", b, told(k), err, api.ErrBad)
	}
}

// wantCompared asks both ways round.
func wantCompared(t *testing.T, a, b stamp.Key, want int) {
	t.Helper()
	if c := stamp.Compare(a, b); c != want {
		t.Errorf("Compare(%s, %s): %d, want %d", told(a), told(b), c, want)
	}
	if c := stamp.Compare(b, a); c != -want {
		t.Errorf("Compare(%s, %s): %d, want %d", told(b), told(a), c, -want)
	}
}

func wantEnds(t *testing.T, space int, name, first, behind string) {
	t.Helper()
	if b := stamp.First(space, []byte(name)); string(b) != first {
		t.Errorf("First(%d, %q): % x, want % x", space, name, b, first)
	}
	if b := stamp.Behind(space, []byte(name)); string(b) != behind {
		t.Errorf("Behind(%d, %q): % x, want % x", space, name, b, behind)
	}
}
