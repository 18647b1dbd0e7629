package json_test

import (
	"slices"
	"strings"
	"testing"

	"muniment/api"
	"muniment/json"
)

// P1.1: Formed.

func TestFormed(t *testing.T) {
	for name, v := range formedValues() {
		if !json.Formed(v) {
			t.Errorf("%s: isn't formed", name)
		}
	}
	for name, v := range unformedValues() {
		if json.Formed(v) {
			t.Errorf("%s: is formed", name)
		}
	}
}

// P1.1: Depth.

func TestDepth(t *testing.T) {
	for _, c := range []struct {
		v    api.Value
		want int
	}{
		{api.Value{}, 1},
		{api.Value{Kind: api.False}, 1},
		{api.Value{Kind: api.True}, 1},
		{integer(5), 1},
		{text("x"), 1},
		{array(), 1},
		{api.Value{Kind: api.Array, Items: []api.Value{}}, 1},
		{object(""), 1},
		{array(integer(1)), 2},
		{array(array()), 2},
		{object("a", object("")), 2},
		{array(array(integer(1)), integer(2), integer(3)), 3},
		{array(integer(1), array(integer(2)), integer(3)), 3},
		{array(integer(1), integer(2), array(integer(3))), 3},
		{array(nested(3, integer(1)), nested(2, integer(1))), 5},
		{object("a b", integer(1), array(object("c", integer(2)))), 4},
		{nested(4, integer(1)), 5},
		{nested(5, integer(1)), 6},
		{nested(5, array()), 6},
		{nestedObjects(5, integer(1)), 6},
		{nested(6, integer(1)), 7},
		{nested(6, array()), 7},
		{nestedObjects(6, integer(1)), 7},
		{nested(7, integer(1)), 7},
		{nestedObjects(8, integer(1)), 7},
		{nested(900, integer(1)), 7},
		{array(nested(900, integer(1)), nested(3, integer(1))), 7},
		{wide(api.Array, 500), 2},
	} {
		if got := json.Depth(c.v); got != c.want {
			t.Errorf("Depth(%v): %d, want %d", c.v, got, c.want)
		}
	}
}

func TestDepthOfUnformed(t *testing.T) {
	inner := []api.Value{nested(2, integer(1))}
	for _, c := range []struct {
		v    api.Value
		want int
	}{
		{api.Value{Kind: -1}, 1},
		{api.Value{Kind: 7}, 1},
		{api.Value{Kind: -1, Items: inner}, 1},
		{api.Value{Kind: 7, Names: []string{"a"}, Items: inner}, 1},
		{api.Value{Kind: 1 << 40, Items: inner}, 1},
		{api.Value{Kind: api.Null, Items: inner}, 1},
		{api.Value{Kind: api.Int, Items: inner}, 1},
		{api.Value{Kind: api.String, Text: "\xff", Items: inner}, 1},
		{api.Value{Kind: api.Array, N: 3, Text: "x", Items: inner}, 4},
		{api.Value{Kind: api.Object, Items: inner}, 4},
		{api.Value{Kind: api.Object, Names: []string{"a", "b"}}, 1},
		{array(api.Value{Kind: 7, Items: inner}), 2},
	} {
		if got := json.Depth(c.v); got != c.want {
			t.Errorf("Depth(%v): %d, want %d", c.v, got, c.want)
		}
	}
}

// P1.1: Same.

// changes answers values that differ from v in one thing each, at any depth.
func changes(v api.Value) []api.Value {
	l := []api.Value{v, v, v, v, v, v}
	l[0].Kind++
	l[1].N++
	l[2].Text += "x"
	l[3].Names = append(slices.Clone(v.Names), "z")
	l[4].Items = append(slices.Clone(v.Items), api.Value{})
	l[5].N = -v.N - 1
	for i := range v.Names {
		w := v
		w.Names = slices.Clone(v.Names)
		w.Names[i] += "y"
		l = append(l, w)
	}
	for i := range v.Items {
		for _, item := range changes(v.Items[i]) {
			w := v
			w.Items = slices.Clone(v.Items)
			w.Items[i] = item
			l = append(l, w)
		}
	}
	if n := len(v.Names); n > 1 && v.Names[0] != v.Names[n-1] {
		w := v
		w.Names = slices.Clone(v.Names)
		slices.Reverse(w.Names)
		l = append(l, w)
	}
	return l
}

// deepCopy shares nothing with v; lists without elements are nil there.
func deepCopy(v api.Value) api.Value {
	w := v
	w.Text, w.Names, w.Items = strings.Clone(v.Text), nil, nil
	for _, name := range v.Names {
		w.Names = append(w.Names, strings.Clone(name))
	}
	for _, item := range v.Items {
		w.Items = append(w.Items, deepCopy(item))
	}
	return w
}

func TestSame(t *testing.T) {
	all := unformedValues()
	for name, v := range formedValues() {
		all[name] = v
	}
	delete(all, "900 deep") // its changes would be too many; see TestSameDeep
	for name, v := range all {
		if c := deepCopy(v); !json.Same(v, c) || !json.Same(c, v) || !json.Same(v, v) {
			t.Errorf("%s: isn't the same as itself", name)
		}
		for _, w := range changes(v) {
			if json.Same(v, w) || json.Same(w, v) {
				t.Errorf("%s: the same as %v", name, w)
			}
		}
	}
}

func TestSameOfAllPairs(t *testing.T) {
	var l []api.Value
	for _, v := range formedValues() {
		l = append(l, v)
	}
	for _, v := range unformedValues() {
		l = append(l, v)
	}
	for _, a := range l {
		for _, b := range l {
			if json.Same(a, b) != alike(a, b) {
				t.Errorf("Same(%v, %v): %v", a, b, json.Same(a, b))
			}
		}
	}
}

func TestSameDeep(t *testing.T) {
	a, b, c := nested(999, integer(1)), nested(999, integer(1)), nested(999, integer(2))
	if !json.Same(a, b) {
		t.Error("1000 deep: not the same")
	}
	if json.Same(a, c) || json.Same(a, nested(998, integer(1))) || json.Same(nested(998, integer(1)), a) {
		t.Error("1000 deep: the same as another one")
	}
}

// R5: what is handed in is left as it is, its spare room too.
func TestArgumentsStay(t *testing.T) {
	names := []string{"a", "b", "spare", "room"}
	items := []api.Value{text("x"), array(integer(1), integer(2)), integer(8), integer(9)}
	v := api.Value{Kind: api.Object, Names: names[:2], Items: items[:2]}
	wrong := api.Value{Kind: api.Object, Names: []string{"b", "a"}, Items: items[2:]}
	json.Formed(v)
	json.Formed(wrong)
	json.Depth(v)
	json.Print(v)
	json.Print(wrong)
	json.Same(v, wrong)
	if !slices.Equal(names, []string{"a", "b", "spare", "room"}) || !slices.Equal(wrong.Names, []string{"b", "a"}) {
		t.Error(names, wrong.Names)
	}
	if !alike(array(items...), array(text("x"), array(integer(1), integer(2)), integer(8), integer(9))) {
		t.Error(items)
	}
}
