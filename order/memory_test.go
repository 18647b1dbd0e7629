package order_test

import (
	"slices"
	"strconv"
	"strings"
	"testing"

	"muniment/api"
	"muniment/json"
	"muniment/order"
)

// R5: what is handed in is left as it is, its spare room too, and isn't kept; what is answered is new memory.

// roomy answers l in lists that have spare room, in which something stands.
func roomy(l []api.Value) []api.Value {
	items := []api.Value{}
	for _, v := range l {
		names := append(slices.Clone(v.Names), "spare", "room")
		v.Names = names[:len(names)-2]
		v.Items = roomy(v.Items)
		items = append(items, v)
	}
	items = append(items, api.Value{Kind: api.True}, api.Value{Kind: 9, Text: "room"})
	return items[:len(items)-2]
}

// whole tells l, and all that stands in the spare room of its lists.
func whole(l []api.Value) string {
	s := strconv.Itoa(len(l)) + "("
	for _, v := range l[:cap(l)] {
		names := v.Names[:cap(v.Names)]
		s += strconv.Itoa(v.Kind) + " " + strconv.FormatInt(v.N, 10) + " " + v.Text + strconv.Itoa(len(v.Names)) + strings.Join(names, ",") + whole(v.Items)
	}
	return s + ")"
}

// noted notes where the members of all lists of l stand, spare room too; it answers how many were noted already.
func noted(notes map[any]bool, l []api.Value) int {
	twice := 0
	note := func(place any) {
		if notes[place] {
			twice++
		}
		notes[place] = true
	}
	items := l[:cap(l)]
	for i := range items {
		note(&items[i])
	}
	for _, v := range l {
		names := v.Names[:cap(v.Names)]
		for i := range names {
			note(&names[i])
		}
		twice += noted(notes, v.Items)
	}
	return twice
}

func spoil(l []api.Value) {
	for i, v := range l {
		spoil(v.Items)
		for k := range v.Names {
			v.Names[k] = "spoilt"
		}
		l[i] = api.Value{Kind: 9}
	}
}

func TestMemory(t *testing.T) {
	for _, texts := range [][]string{
		{"1"},
		{"1", "2"},
		{"[1]", `{"a":1}`},
		{`{"a":{"b":[2]},"c":[[],{}]}`, `[3,[4,{"d":5}]]`, `"s"`, "{}", "[]", "null", `{"a":{"b":[1]}}`, `"s"`},
	} {
		l := roomy(readAll(t, texts...))
		before := whole(l)
		sorted := order.Sort(l)
		order.Least(l)
		for _, a := range l {
			for _, b := range l {
				order.Compare(a, b)
			}
		}
		if whole(l) != before {
			t.Errorf("%v: an argument has changed", texts)
		}
		notes := map[any]bool{}
		noted(notes, l)
		if n := noted(notes, sorted); n != 0 {
			t.Errorf("%v: the answer has %d places twice, or shares them with the argument", texts, n)
		}
		text := printedAll(sorted)
		spoil(l)
		if printedAll(sorted) != text {
			t.Errorf("%v: the answer hangs on the argument", texts)
		}
	}
}

// A list of which values, or lists of one value, share memory, is answered in lists that don't.
func TestMemoryOfSharedArguments(t *testing.T) {
	l := roomy(readAll(t, "[1,[2]]", `{"a":[3],"b":{"c":4}}`))
	both := api.Value{Kind: api.Array, Items: []api.Value{l[1], l[0], l[1]}}
	shared := []api.Value{both, l[1], l[0], l[1], both, l[0]}
	sorted := order.Sort(shared)
	want := []api.Value{l[0], l[0], both, both, l[1], l[1]}
	if !slices.EqualFunc(sorted, want, json.Same) {
		t.Errorf("%s", printedAll(sorted))
	}
	notes := map[any]bool{}
	noted(notes, shared)
	if n := noted(notes, sorted); n != 0 {
		t.Errorf("the answer has %d places twice, or shares them with the argument", n)
	}
	wantCompare(t, l[0], l[0], 0)
	wantLess(t, both, l[1])
}

// What is refused is left as it is too.
func TestMemoryOfUnformed(t *testing.T) {
	for what, u := range unformedValues() {
		l := roomy([]api.Value{{Kind: api.Int, N: 2}, {Kind: api.Int, N: 1}, u})
		before := whole(l)
		wantNone(t, l)
		order.Compare(l[0], l[2])
		order.Compare(l[2], l[0])
		if whole(l) != before {
			t.Errorf("%s: an argument has changed", what)
		}
	}
}

// R7: no call hangs on those before it.
func TestCallsAgain(t *testing.T) {
	l := readAll(t, "3", `"b"`, "1", "[2]")
	for range 3 {
		wantSorted(t, l)
		wantNone(t, append(slices.Clone(l), api.Value{Kind: 7}))
		wantLess(t, l[0], l[1])
	}
}
