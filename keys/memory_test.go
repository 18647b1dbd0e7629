package keys_test

import (
	"bytes"
	"slices"
	"strconv"
	"strings"
	"testing"

	"muniment/api"
	"muniment/json"
	"muniment/keys"
)

// R5: what is handed in is left as it is, its spare room too, and isn't kept; what is answered is new memory.

// roomy answers l in lists that have spare room, in which something stands.
func roomy(l []api.Value) []api.Value {
	items := []api.Value{}
	for _, v := range l {
		names := append(slices.Clone(v.Names), "spare", "room")
		v.Names = names[:len(names)-2]
		v.Items = roomy(v.Items)
		items = append(items, v)
	}
	items = append(items, api.Value{Kind: api.True}, api.Value{Kind: 9, Text: "room"})
	return items[:len(items)-2]
}

// whole tells l, and all that stands in the spare room of its lists.
func whole(l []api.Value) string {
	s := strconv.Itoa(len(l)) + "("
	for _, v := range l[:cap(l)] {
		s += strconv.Itoa(v.Kind) + " " + strconv.FormatInt(v.N, 10) + " " + v.Text + strconv.Itoa(len(v.Names)) + strings.Join(v.Names[:cap(v.Names)], ",") + whole(v.Items)
	}
	return s + ")"
}

// noted notes where the members of all lists of l stand, spare room too; it answers how many were noted already.
func noted(notes map[any]bool, l []api.Value) int {
	twice := 0
	note := func(place any) {
		if notes[place] {
			twice++
		}
		notes[place] = true
	}
	items := l[:cap(l)]
	for i := range items {
		note(&items[i])
	}
	for _, v := range l {
		names := v.Names[:cap(v.Names)]
		for i := range names {
			note(&names[i])
		}
		twice += noted(notes, v.Items)
	}
	return twice
}

// bytesWithRoom are the bytes of s with spare room, in which something stands.
func bytesWithRoom(s string) []byte {
	return []byte(s + "\x01\x05room\x00\x00")[:len(s)]
}

func boolsWithRoom(l []bool) []bool {
	return append(slices.Clone(l), true, false, true)[:len(l)]
}

func spoil(l []api.Value) {
	for i, v := range l {
		spoil(v.Items)
		for k := range v.Names {
			v.Names[k] = "spoilt"
		}
		l[i] = api.Value{Kind: 9}
	}
}

func spoilBytes(b []byte) {
	b = b[:cap(b)]
	for i := range b {
		b[i] = 77
	}
}

func texts() []string {
	return []string{"null", "true", "-7", `"a\u0000b"`, "[]", "{}", `[1,["a",{"b":null}],[]]`, `{"a":{"b":[2]},"c":[[],{}],"d":"x"}`}
}

func TestMemoryOfKey(t *testing.T) {
	for _, s := range texts() {
		l := roomy(readAll(t, s))
		before := whole(l)
		b := key(t, l[0])
		if whole(l) != before {
			t.Errorf("Key(%s): the argument has changed", s)
		}
		want := keyOf(l[0])
		again := key(t, l[0])
		spoilBytes(again)
		spoil(l)
		if string(b) != want {
			t.Errorf("Key(%s): the answer hangs on the argument, or on another answer: % x", s, b)
		}
	}
}

func TestMemoryOfRead(t *testing.T) {
	for _, s := range texts() {
		want := read(t, s)
		b := bytesWithRoom(keyOf(want))
		before := string(b[:cap(b)])
		v, _, _ := keys.Read(b)
		w, _, _ := keys.Read(b)
		if string(b[:cap(b)]) != before {
			t.Errorf("Read(%s): the argument has changed", s)
		}
		notes := map[any]bool{}
		if n := noted(notes, []api.Value{v}) + noted(notes, []api.Value{w}); n != 0 {
			t.Errorf("Read(%s): %d places of two answers are the same", s, n)
		}
		spoilBytes(b)
		spoil([]api.Value{w})
		if !json.Same(v, want) {
			t.Errorf("Read(%s): the answer hangs on the argument, or on another answer", s)
		}
	}
}

func TestMemoryOfCompound(t *testing.T) {
	for _, s := range [][]string{nil, texts()[:1], texts()[1:4], texts()} {
		for _, down := range downs(len(s)) {
			l := roomy(readAll(t, s...))
			down = boolsWithRoom(down)
			before, downBefore := whole(l), slices.Clone(down[:cap(down)])
			b, err := keys.Compound(l, down)
			again, _ := keys.Compound(l, down)
			if whole(l) != before || !slices.Equal(down[:cap(down)], downBefore) {
				t.Errorf("Compound(%v, %v): an argument has changed", s, down)
			}
			want := compoundOf(l, down)
			spoilBytes(again)
			spoil(l)
			clear(down[:cap(down)])
			if err != api.OK || string(b) != want {
				t.Errorf("Compound(%v, %v): the answer hangs on an argument, or on another answer: % x", s, downBefore, b)
			}
		}
	}
}

func TestMemoryOfSplit(t *testing.T) {
	for _, s := range [][]string{nil, texts()[:1], texts()[1:4], texts()} {
		for _, down := range downs(len(s)) {
			want := readAll(t, s...)
			b := bytesWithRoom(compoundOf(want, down))
			down = boolsWithRoom(down)
			before, downBefore := string(b[:cap(b)]), slices.Clone(down[:cap(down)])
			l, err := keys.Split(b, down, len(s))
			again, _ := keys.Split(b, down, len(s))
			if string(b[:cap(b)]) != before || !slices.Equal(down[:cap(down)], downBefore) {
				t.Errorf("Split(%v, %v): an argument has changed", s, down)
			}
			notes := map[any]bool{}
			if n := noted(notes, l) + noted(notes, again); n != 0 {
				t.Errorf("Split(%v, %v): %d places of two answers are the same", s, down, n)
			}
			spoilBytes(b)
			spoil(again)
			clear(down[:cap(down)])
			if err != api.OK || !slices.EqualFunc(l, want, json.Same) {
				t.Errorf("Split(%v, %v): the answer hangs on an argument, or on another answer", s, downBefore)
			}
		}
	}
}

// What is refused is left as it is too.
func TestMemoryOfRefused(t *testing.T) {
	down := boolsWithRoom([]bool{true, false})
	for what, u := range unformedValues() {
		if what == "holds itself" {
			continue // whole has no end with it
		}
		l := roomy([]api.Value{integer(2), u, integer(1)})
		before := whole(l)
		keys.Key(l[1])
		wantCompoundError(t, l, down, api.ErrForm)
		if whole(l) != before {
			t.Errorf("%s: an argument has changed", what)
		}
	}
	for _, s := range []string{"", "\x00", "\x05a", "\x01\x01\x01", "\xfe\x05\xff\x00\x00", strings.Repeat("\x01", 201)} {
		b := bytesWithRoom(s)
		before := bytes.Clone(b[:cap(b)])
		keys.Read(b)
		for n := range 4 {
			keys.Split(b, down, n-1)
		}
		if !bytes.Equal(b[:cap(b)], before) {
			t.Errorf("% x has changed", s)
		}
	}
	if !slices.Equal(down[:cap(down)][:5], []bool{true, false, true, false, true}) {
		t.Error("down has changed")
	}
}

// Values that share memory are written as those that don't.
func TestMemoryOfSharedArguments(t *testing.T) {
	v := read(t, `{"a":[3],"b":{"c":4}}`)
	both := array(v, v, v)
	apart := read(t, `[{"a":[3],"b":{"c":4}},{"a":[3],"b":{"c":4}},{"a":[3],"b":{"c":4}}]`)
	wantKey(t, both, keyOf(apart))
	wantCompound(t, []api.Value{v, v}, []bool{true}, compoundOf([]api.Value{v, v}, []bool{true}))
}

// R7: no call hangs on those before it.
func TestCallsAgain(t *testing.T) {
	v := read(t, `["a",{"b":-1}]`)
	l := []api.Value{v, text("x"), {}}
	for range 3 {
		wantKey(t, v, keyOf(v))
		wantBad(t, "\x05a\x00")
		wantCompound(t, l, []bool{true, false, true}, compoundOf(l, []bool{true, false, true}))
		wantCompoundError(t, append(slices.Clone(l), api.Value{Kind: 7}), nil, api.ErrForm)
		wantSplitError(t, "\x01", nil, 2, api.ErrBad)
		wantSplitError(t, "\x01", nil, -1, api.ErrArg)
	}
}
