package json_test

import (
	"strings"
	"testing"

	"muniment/api"
	"muniment/json"
)

// What the tests of this package share. They hold values against each other by alike, not by Same, which is under test itself.

func integer(n int64) api.Value {
	return api.Value{Kind: api.Int, N: n}
}

func text(s string) api.Value {
	return api.Value{Kind: api.String, Text: s}
}

func array(l ...api.Value) api.Value {
	return api.Value{Kind: api.Array, Items: l}
}

// object makes an Object of names, with blanks between, and items.
func object(names string, l ...api.Value) api.Value {
	return api.Value{Kind: api.Object, Names: strings.Fields(names), Items: l}
}

// nested is v in that many Arrays.
func nested(arrays int, v api.Value) api.Value {
	for range arrays {
		v = array(v)
	}
	return v
}

// nestedObjects is v in that many Objects.
func nestedObjects(objects int, v api.Value) api.Value {
	for range objects {
		v = object("a", v)
	}
	return v
}

// rising answers that many names, which rise.
func rising(n int) []string {
	var l []string
	for i := range n {
		l = append(l, string([]byte{'a' + byte(i/26), 'a' + byte(i%26)}))
	}
	return l
}

// wide answers an Array, or an Object, of that many Nulls.
func wide(kind, n int) api.Value {
	v := api.Value{Kind: kind, Items: make([]api.Value, n)}
	if kind == api.Object {
		v.Names = rising(n)
	}
	return v
}

func alike(a, b api.Value) bool {
	if a.Kind != b.Kind || a.N != b.N || a.Text != b.Text || len(a.Names) != len(b.Names) || len(a.Items) != len(b.Items) {
		return false
	}
	for i := range a.Names {
		if a.Names[i] != b.Names[i] {
			return false
		}
	}
	for i := range a.Items {
		if !alike(a.Items[i], b.Items[i]) {
			return false
		}
	}
	return true
}

// short keeps what a failed test tells within bounds.
func short(s string) string {
	if len(s) > 200 {
		return s[:200] + ".."
	}
	return s
}

func wantRead(t *testing.T, s string, want api.Value) {
	t.Helper()
	got, err := json.Read(s)
	if err != api.OK || !alike(got, want) {
		t.Errorf("Read(%q): %v, error %d, want %v", short(s), got, err, want)
	}
}

func wantReadError(t *testing.T, s string, want api.Errno) {
	t.Helper()
	got, err := json.Read(s)
	if err != want || !alike(got, api.Value{}) {
		t.Errorf("Read(%q): %v, error %d, want error %d and nothing beside it", short(s), got, err, want)
	}
}

func wantPrint(t *testing.T, v api.Value, want string) {
	t.Helper()
	got, err := json.Print(v)
	if err != api.OK || got != want {
		t.Errorf("Print(%v): %q, error %d, want %q", v, short(got), err, short(want))
	}
}

// formedValues are values that are formed, the edges of each rule among them.
func formedValues() map[string]api.Value {
	return map[string]api.Value{
		"null":                   {},
		"false":                  {Kind: api.False},
		"true":                   {Kind: api.True},
		"null, empty lists":      {Kind: api.Null, Names: []string{}, Items: []api.Value{}},
		"int, empty lists":       {Kind: api.Int, N: 4, Names: []string{}, Items: []api.Value{}},
		"string, empty lists":    {Kind: api.String, Text: "s", Names: []string{}, Items: []api.Value{}},
		"array, empty names":     {Kind: api.Array, Names: []string{}, Items: []api.Value{{}}},
		"0":                      integer(0),
		"-1":                     integer(-1),
		"least int":              integer(-1 << 63),
		"greatest int":           integer(1<<63 - 1),
		"empty string":           text(""),
		"60 bytes":               text(strings.Repeat("x", 60)),
		"60 bytes, 20 runes":     text(strings.Repeat("\u20ac", 20)),
		"60 zeros":               text(strings.Repeat("\x00", 60)),
		"all of UTF-8":           text("\x7f\u0080\u07ff\u0800\ud7ff\ue000\ufeff\ufffd\uffff\U00010000\U0010ffff"),
		"empty array":            array(),
		"array that isn't nil":   {Kind: api.Array, Items: []api.Value{}},
		"24 items":               wide(api.Array, 24),
		"empty object":           object(""),
		"object that isn't nil":  {Kind: api.Object, Names: []string{}, Items: []api.Value{}},
		"24 members":             wide(api.Object, 24),
		"empty name":             {Kind: api.Object, Names: []string{"", "a"}, Items: make([]api.Value, 2)},
		"name of 60 bytes":       object(strings.Repeat("n", 60), integer(1)),
		"names rise by bytes":    object("A Z a aa ab b \u00e9 \uffff \U00010000", make([]api.Value, 9)...),
		"6 deep, int":            nested(5, integer(1)),
		"6 deep, empty array":    nested(5, array()),
		"6 deep, empty object":   nestedObjects(5, object("")),
		"6 deep, objects":        nestedObjects(5, text("x")),
		"6 deep, mixed":          nested(3, nestedObjects(2, api.Value{Kind: api.True})),
		"6 deep, second item":    array(integer(1), nested(4, integer(2)), integer(3)),
		"all kinds in an array":  array(api.Value{}, api.Value{Kind: api.False}, api.Value{Kind: api.True}, integer(7), text("s"), array(), object("")),
		"all kinds in an object": object("a b c d e f g", api.Value{}, api.Value{Kind: api.False}, api.Value{Kind: api.True}, integer(7), text("s"), array(), object("")),
	}
}

// unformedValues are values of which each breaks one rule.
func unformedValues() map[string]api.Value {
	m := map[string]api.Value{
		"61 bytes":                       text(strings.Repeat("x", 61)),
		"63 bytes, 21 runes":             text(strings.Repeat("\u20ac", 21)),
		"byte of no UTF-8":               text("a\xff"),
		"half a rune":                    text("\xe2\x82"),
		"surrogate in UTF-8":             text("\xed\xa0\x80"),
		"overlong 0":                     text("\xc0\x80"),
		"beyond U+10FFFF":                text("\xf4\x90\x80\x80"),
		"25 items":                       wide(api.Array, 25),
		"25 members":                     wide(api.Object, 25),
		"too few names":                  object("a", make([]api.Value, 2)...),
		"too many names":                 object("a b", make([]api.Value, 1)...),
		"names without items":            object("a"),
		"items without names":            object("", make([]api.Value, 1)...),
		"a name twice":                   object("a a", make([]api.Value, 2)...),
		"a name twice at the end":        object("a b b", make([]api.Value, 3)...),
		"names that fall":                object("b a", make([]api.Value, 2)...),
		"names that fall at the end":     object("a c b", make([]api.Value, 3)...),
		"names that fall by bytes alone": object("a B", make([]api.Value, 2)...),
		"runes that fall by bytes alone": object("\U00010000 \uffff", make([]api.Value, 2)...),
		"name of 61 bytes":               object(strings.Repeat("n", 61), integer(1)),
		"name of no UTF-8":               object("a \xff", make([]api.Value, 2)...),
		"7 deep, int":                    nested(6, integer(1)),
		"7 deep, empty array":            nested(6, array()),
		"7 deep, empty object":           nestedObjects(6, object("")),
		"7 deep, objects":                nestedObjects(6, text("x")),
		"7 deep, last item":              array(integer(1), nested(5, integer(2))),
		"900 deep":                       nested(900, integer(1)),
		"first item unformed":            array(api.Value{Kind: 7}, integer(1)),
		"last item unformed":             array(integer(1), api.Value{Kind: 7}),
		"last member unformed":           object("a b", integer(1), text("\xff")),
		"unformed 6 deep":                nested(5, text("\xff")),
		"array of an unformed object":    array(object("b a", make([]api.Value, 2)...)),
	}
	for _, kind := range []int{-1 << 62, -1, 7, 8, 1 << 40} {
		m["kind "+string(rune('a'+len(m)))] = api.Value{Kind: kind}
	}
	// All fields that a kind doesn't have, one at a time.
	for kind := api.Null; kind <= api.Object; kind++ {
		name := "kind " + string(rune('0'+kind)) + " with "
		if kind != api.Int {
			m[name+"N"] = api.Value{Kind: kind, N: 1}
			m[name+"N below 0"] = api.Value{Kind: kind, N: -1}
		}
		if kind != api.String {
			m[name+"Text"] = api.Value{Kind: kind, Text: "x"}
		}
		m[name+"Names"] = api.Value{Kind: kind, Names: []string{""}}
		if kind != api.Array {
			m[name+"Items"] = api.Value{Kind: kind, Items: make([]api.Value, 1)}
		}
		if kind < api.Array {
			m[name+"Names and Items"] = api.Value{Kind: kind, Names: []string{"a"}, Items: make([]api.Value, 1)}
		}
	}
	m["array with as many Names"] = api.Value{Kind: api.Array, Names: []string{"a"}, Items: make([]api.Value, 1)}
	return m
}
