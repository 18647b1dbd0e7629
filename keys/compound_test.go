package keys_test

import (
	"math/rand"
	"slices"
	"strings"
	"testing"

	"muniment/api"
	"muniment/json"
)

// P4.2: Compound, and Split of what it answers.

func TestCompoundBytes(t *testing.T) {
	one := "\x04\x80\x00\x00\x00\x00\x00\x00\x01"
	down1 := "\xfb\x7f\xff\xff\xff\xff\xff\xff\xfe"
	for _, c := range []struct {
		l    []string
		down []bool
		want string
	}{
		{[]string{"null"}, nil, "\x01"},
		{[]string{"null"}, []bool{true}, "\xfe"},
		{[]string{"false", "true"}, nil, "\x02\x03"},
		{[]string{"false", "true"}, []bool{false, false}, "\x02\x03"},
		{[]string{"false", "true"}, []bool{true}, "\xfd\x03"},
		{[]string{"false", "true"}, []bool{true, false}, "\xfd\x03"},
		{[]string{"false", "true"}, []bool{false, true}, "\x02\xfc"},
		{[]string{"false", "true"}, []bool{true, true, true, true}, "\xfd\xfc"},
		{[]string{"true", `"b"`}, []bool{false, true}, "\x03\xfa\x9d\xff\xff"},
		{[]string{"1", "1", "1"}, []bool{false, true}, one + down1 + one},
		{[]string{"1", "1", "1"}, []bool{true, false, true}, down1 + one + down1},
		{[]string{"1", "1", "1"}, []bool{false, false, false, true}, one + one + one},
		{[]string{`""`, `"\u0000"`, "[]"}, []bool{true, true, true}, "\xfa\xff\xff" + "\xfa\xff\x00\xff\xff" + "\xf9\xff"},
		{[]string{`{"a":[null]}`, "{}"}, []bool{true, false}, "\xf8\xfe\x9e\xff\xff\xf9\xfe\xff\xff" + "\x07\x00"},
		{[]string{"-9223372036854775808", "9223372036854775807"}, []bool{true, true}, "\xfb\xff\xff\xff\xff\xff\xff\xff\xff" + "\xfb\x00\x00\x00\x00\x00\x00\x00\x00"},
	} {
		l := readAll(t, c.l...)
		wantCompound(t, l, c.down, c.want)
		if got := compoundOf(l, c.down); got != c.want {
			t.Errorf("the tests expect % x of %v, %v, which isn't what is written out", got, c.l, c.down)
		}
	}
}

func TestCompoundOfNone(t *testing.T) {
	for _, down := range downs(3) {
		wantCompound(t, nil, down, "")
		wantCompound(t, []api.Value{}, down, "")
	}
}

// Alone, and with others, each value falls or doesn't.
func TestCompoundOfAllKinds(t *testing.T) {
	l := rising(t)
	for i, v := range l {
		w := l[(i*7+3)%len(l)]
		for _, values := range [][]api.Value{{v}, {v, w}, {{}, v, {}}, {v, v, {}, text("")}} {
			for _, down := range downs(len(values)) {
				wantCompoundOf(t, values, down)
			}
		}
	}
}

// wantCompoundOf works out what is to be answered of formed values.
func wantCompoundOf(t *testing.T, l []api.Value, down []bool) {
	t.Helper()
	if key := compoundOf(l, down); len(key) > api.MaxKey {
		wantCompoundError(t, l, down, api.ErrLong)
	} else {
		wantCompound(t, l, down, key)
	}
}

func TestCompoundOfMany(t *testing.T) {
	r := rand.New(rand.NewSource(1))
	for range 20000 {
		var l []api.Value
		for range r.Intn(8) {
			l = append(l, drawn(r, 1+r.Intn(3)))
		}
		down := make([]bool, r.Intn(10))
		for i := range down {
			down[i] = r.Intn(2) == 0
		}
		wantCompoundOf(t, l, down)
	}
}

// sized is l with one value more, at that place, so that the compound key has size bytes.
func sized(t *testing.T, l []api.Value, at, size int) []api.Value {
	t.Helper()
	v := api.Value{}
	left := size - len(compoundOf(l, nil))
	switch {
	case left == 2:
		v = array()
	case left > 2:
		v = text(strings.Repeat("y", left-3))
	}
	l = slices.Insert(slices.Clone(l), at, v)
	if n := len(compoundOf(l, nil)); n != size {
		t.Fatalf("%s has %d bytes, not %d", printedAll(l), n, size)
	}
	return l
}

// Of just MaxKey bytes, and of one more, wherever the bytes are from.
func TestCompoundAtMaxKey(t *testing.T) {
	x57, z60, nine := text(strings.Repeat("x", 57)), text(strings.Repeat("\x00", 60)), integer(9)
	for _, rest := range [][]api.Value{
		{x57, x57, x57},
		{z60, nine, nine, nine},
		slices.Repeat([]api.Value{nine}, 22),
		slices.Repeat([]api.Value{{}}, 150),
		slices.Repeat([]api.Value{{}}, 199),
		{wide(api.Object, 24, api.Value{})},
		{nestedObjects(5, z60)},
	} {
		for at := range len(rest) + 1 {
			fits := sized(t, rest, at, api.MaxKey)
			long := sized(t, rest, at, api.MaxKey+1)
			for _, down := range downs(len(fits)) {
				wantCompound(t, fits, down, compoundOf(fits, down))
				wantCompoundError(t, long, down, api.ErrLong)
			}
		}
	}
}

// The same of one value alone.
func TestCompoundAtMaxKeyOfOne(t *testing.T) {
	x57, z60, nine := text(strings.Repeat("x", 57)), text(strings.Repeat("\x00", 60)), integer(9)
	for _, rest := range [][]api.Value{
		{x57, x57, x57},
		{z60, nine, nine, nine},
		slices.Repeat([]api.Value{nine}, 21),
	} {
		for at := range len(rest) + 1 {
			fits := array(sized(t, rest, at, api.MaxKey-2)...)
			long := array(sized(t, rest, at, api.MaxKey-1)...)
			for _, down := range downs(1) {
				wantCompound(t, []api.Value{fits}, down, compoundOf([]api.Value{fits}, down))
				wantCompoundError(t, []api.Value{long}, down, api.ErrLong)
			}
		}
	}
}

// Far beyond MaxKey, by one value or by many.
func TestCompoundFarTooLong(t *testing.T) {
	long := wide(api.Array, 24, wide(api.Object, 24, text(strings.Repeat("x", 60))))
	for _, l := range [][]api.Value{
		{long}, {{}, long}, {long, {}}, {long, long},
		slices.Repeat([]api.Value{{}}, 100000),
		slices.Repeat([]api.Value{integer(1)}, 100000),
	} {
		for _, down := range downs(len(l)) {
			wantCompoundError(t, l, down, api.ErrLong)
		}
	}
}

// One that isn't formed, alone, anywhere in a list, and where the key would be too long as well.
func TestCompoundOfUnformed(t *testing.T) {
	good := []api.Value{{}, integer(5), text("a"), array()}
	long := slices.Repeat([]api.Value{text(strings.Repeat("x", 60))}, 4)
	for what, u := range unformedValues() {
		for _, bad := range []api.Value{u, array(api.Value{}, u), object("a,b", u, api.Value{})} {
			if json.Formed(bad) {
				t.Fatal(what)
			}
			for _, down := range [][]bool{nil, {true}, {false, true}, {true, true, true, true, true, true}} {
				wantCompoundError(t, []api.Value{bad}, down, api.ErrForm)
				wantCompoundError(t, []api.Value{bad, bad}, down, api.ErrForm)
				for _, l := range [][]api.Value{good, long} {
					for at := range len(l) + 1 {
						wantCompoundError(t, slices.Insert(slices.Clone(l), at, bad), down, api.ErrForm)
					}
				}
			}
		}
	}
	far := make([]api.Value, 100001)
	far[100000].N = 1
	wantCompoundError(t, far, nil, api.ErrForm)
}
