package keys_test

import (
	"bytes"
	"slices"
	"strings"
	"testing"

	"muniment/api"
	"muniment/json"
	"muniment/keys"
)

// P4.2: Split, of bytes that no Compound has answered.

const greatest = 1<<63 - 1

// That n may not be is asked ahead of all else.
func TestSplitNumbers(t *testing.T) {
	for _, n := range []int{-1, -2, -100, -greatest - 1, 101, 102, 255, 256, 1 << 32, greatest} {
		for _, b := range []string{"", "\x01", "\x00", "\xfe", strings.Repeat("\x01", 101), strings.Repeat("\x01", 200), strings.Repeat("\x01", 201)} {
			for _, down := range downs(3) {
				wantSplitError(t, b, down, n, api.ErrArg)
			}
		}
	}
}

func TestSplitOfNone(t *testing.T) {
	for _, down := range downs(3) {
		wantSplit(t, "", down, nil)
		for _, b := range []string{"\x00", "\x01", "\xfe", "\xff", "\x05a\x00\x00", strings.Repeat("\x01", 200), strings.Repeat("\x01", 201)} {
			wantSplitError(t, b, down, 0, api.ErrBad)
		}
		for _, n := range []int{1, 2, 99, 100} {
			wantSplitError(t, "", down, n, api.ErrBad)
		}
	}
	if l, err := keys.Split(nil, nil, 0); err != api.OK || len(l) != 0 {
		t.Errorf("Split(nil, nil, 0): %s, error %d", printedAll(l), err)
	}
}

// The most values that may be asked for, all of the same bytes, or of two.
func TestSplitOfHundred(t *testing.T) {
	nulls := make([]api.Value, 100)
	pairs := slices.Repeat([]api.Value{{Kind: api.True}, {Kind: api.False}}, 50)
	empty := slices.Repeat([]api.Value{array()}, 100) // of just MaxKey bytes
	for _, l := range [][]api.Value{nulls, pairs, empty} {
		for _, down := range downs(100) {
			key := compoundOf(l, down)
			wantCompound(t, l, down, key)
			wantSplitError(t, key, down, 99, api.ErrBad)
			wantSplitError(t, key, down, 101, api.ErrArg)
			wantSplitError(t, key[:len(key)-1], down, 100, api.ErrBad)
			wantSplitError(t, key[1:], down, 100, api.ErrBad)
			wantSplitError(t, key+"\x01", down, 100, api.ErrBad)
			wantSplitError(t, key+"\xfe", down, 100, api.ErrBad)
		}
	}
}

// some are lists of which the compound keys aren't long.
func some(t *testing.T) [][]api.Value {
	return [][]api.Value{
		readAll(t, "null"),
		readAll(t, "5"),
		readAll(t, `"a\u0000b"`),
		readAll(t, `[null,"",{}]`),
		readAll(t, `{"":1,"b":[]}`),
		readAll(t, "true", `"a"`),
		readAll(t, "-1", "[]", "{}"),
		readAll(t, `""`, `""`, `""`, `""`),
		readAll(t, `{"a":"\u00ff"}`, "9223372036854775807", "[[null]]"),
	}
}

// Cut off at any place, with bytes left over, with another number of values: there are none.
func TestSplitOfAllOrNone(t *testing.T) {
	for _, l := range some(t) {
		for _, down := range downs(len(l)) {
			key := compoundOf(l, down)
			wantSplit(t, key, down, l)
			for n := range key {
				wantSplitError(t, key[:n], down, len(l), api.ErrBad)
			}
			for c := range 256 {
				wantSplitError(t, key+string([]byte{byte(c)}), down, len(l), api.ErrBad)
			}
			wantSplitError(t, key+key, down, len(l), api.ErrBad)
			for _, n := range []int{0, len(l) - 1, len(l) + 1, 2 * len(l), 100} {
				wantSplitError(t, key, down, n, api.ErrBad)
			}
		}
	}
}

// A value that falls isn't read as one that doesn't, nor the other way round.
func TestSplitWithOtherDown(t *testing.T) {
	for _, l := range some(t) {
		for _, down := range downs(len(l)) {
			for _, other := range downs(len(l)) {
				key := compoundOf(l, down)
				if key == compoundOf(l, other) {
					wantSplit(t, key, other, l)
				} else {
					wantSplitError(t, key, other, len(l), api.ErrBad)
				}
			}
		}
	}
}

// Bytes of more than MaxKey are refused, also those that values have.
func TestSplitOfTooManyBytes(t *testing.T) {
	for _, l := range [][]api.Value{
		{wide(api.Array, 23, integer(1))},
		{text(strings.Repeat("\x00", 60)), text(strings.Repeat("\x00", 37) + "x")},
		append(slices.Repeat([]api.Value{array()}, 99), text("")),
		{wide(api.Array, 24, wide(api.Array, 24, api.Value{}))},
	} {
		for _, down := range downs(len(l)) {
			key := compoundOf(l, down)
			if len(key) <= api.MaxKey {
				t.Fatal(len(key))
			}
			wantSplitError(t, key, down, len(l), api.ErrBad)
			wantSplitError(t, key, down, 101, api.ErrArg)
			wantSplitError(t, key, down, -1, api.ErrArg)
		}
	}
	for _, c := range []string{"\x00", "\x01", "\x06", "\xff", "\xfe"} {
		for _, size := range []int{201, 202, 1000, 1 << 20} {
			for _, n := range []int{0, 1, 100} {
				wantSplitError(t, strings.Repeat(c, size), nil, n, api.ErrBad)
				wantSplitError(t, strings.Repeat(c, size), []bool{true}, n, api.ErrBad)
			}
		}
	}
}

// What would be read as a value that isn't formed, first or last, whether it falls or not.
func TestSplitOfUnformed(t *testing.T) {
	for _, bad := range []string{
		"\x00", "\x08", "\xff",
		"\x05\xff\x00\x00", "\x05\x00\x01\x00\x00", "\x05" + strings.Repeat("x", 61) + "\x00\x00", "\x05\xe2\x82\x00\x00",
		keyOf(wide(api.Array, 25, api.Value{})), keyOf(nested(6, api.Value{})), keyOf(nested(6, array())), keyOf(nestedObjects(6, api.Value{})),
		keyOf(object("b,a", api.Value{}, api.Value{})), keyOf(object("a,a", api.Value{}, api.Value{})), keyOf(named("\xff", api.Value{})), keyOf(named(strings.Repeat("x", 61), api.Value{})),
		"\x07\x02a\x00\x00\x01\x00", "\x07\x01a\x00\x00\x00",
	} {
		turned := []byte(bad)
		for i, c := range turned {
			turned[i] = 255 - c
		}
		wantSplitError(t, bad, nil, 1, api.ErrBad)
		wantSplitError(t, "\x01"+bad, nil, 2, api.ErrBad)
		wantSplitError(t, bad+"\x01", nil, 2, api.ErrBad)
		wantSplitError(t, "\xfe"+bad, []bool{true}, 2, api.ErrBad)
		wantSplitError(t, string(turned), []bool{true}, 1, api.ErrBad)
		wantSplitError(t, "\x01"+string(turned), []bool{false, true}, 2, api.ErrBad)
		wantSplitError(t, string(turned)+"\xfe", []bool{true, true}, 2, api.ErrBad)
	}
}

// Of all bytes out of a few, those that are a compound key are split, and no others.
func TestSplitOfAllShortBytes(t *testing.T) {
	const alphabet, turned = "\x00\x01\x05\x06\x07", "\xff\xfe\xfa\xf9\xf8"
	const most = 5
	bySize := make([][]api.Value, most+1)
	for _, v := range small(most, alphabet+turned) {
		n := len(keyOf(v))
		bySize[n] = append(bySize[n], v)
	}
	for n := range 4 {
		for _, down := range [][]bool{nil, {true}, {false, true}, {true, false, true}} {
			known := map[string][]api.Value{}
			for size := range most + 1 {
				for _, l := range lists(size, bySize) {
					if len(l) == n {
						known[compoundOf(l, down)] = l
					}
				}
			}
			found := 0
			for size := range most + 1 {
				for _, b := range strung(size, alphabet+turned) {
					if l, ok := known[b]; ok {
						wantSplit(t, b, down, l)
						found++
					} else if l, err := keys.Split([]byte(b), down, n); err != api.ErrBad || len(l) != 0 {
						t.Fatalf("Split(% x, %v, %d): %s, error %d", b, down, n, printedAll(l), err)
					}
				}
			}
			if found == 0 || n > 0 && found < 20 {
				t.Error("too few were keys:", n, down, found)
			}
		}
	}
}

// With one byte changed, bytes are the compound key of what is answered, or of none.
func TestSplitOfSpoiltBytes(t *testing.T) {
	for _, l := range some(t) {
		for _, down := range downs(len(l)) {
			key := []byte(compoundOf(l, down))
			for at := range key {
				for c := range 256 {
					b := bytes.Clone(key)
					b[at] = byte(c)
					got, err := keys.Split(b, down, len(l))
					if err == api.ErrBad && len(got) == 0 {
						continue
					}
					if err != api.OK || len(got) != len(l) || slices.ContainsFunc(got, unformed) || compoundOf(got, down) != string(b) {
						t.Errorf("Split(% x, %v, %d): %s, error %d", b, down, len(l), printedAll(got), err)
					}
				}
			}
		}
	}
}

func unformed(v api.Value) bool {
	return !json.Formed(v)
}
