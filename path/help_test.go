package path_test

import (
	"strconv"
	"strings"
	"testing"

	"muniment/api"
	"muniment/json"
	"muniment/path"
)

// What the tests of this package share. Formed values are written as texts, which layer 1 reads and prints.

func read(t *testing.T, s string) api.Value {
	t.Helper()
	v, err := json.Read(s)
	if err != api.OK {
		t.Fatalf("%q: error %d", s, err)
	}
	return v
}

func printed(v api.Value) string {
	s, err := json.Print(v)
	if err != api.OK {
		return "(not formed)"
	}
	return s
}

// nested is text in that many Arrays.
func nested(arrays int, text string) string {
	return strings.Repeat("[", arrays) + text + strings.Repeat("]", arrays)
}

// wideArray is the text of an Array of 0, 1, .. n-1.
func wideArray(n int) string {
	var l []string
	for i := range n {
		l = append(l, strconv.Itoa(i))
	}
	return "[" + strings.Join(l, ",") + "]"
}

// wideObject is the text of an Object with the names b0000, b0001, .., n of them, of which each has its number.
func wideObject(n int) string {
	var l []string
	for i := range n {
		l = append(l, `"b`+strconv.Itoa(10000 + i)[1:]+`":`+strconv.Itoa(i))
	}
	return "{" + strings.Join(l, ",") + "}"
}

// unformedValues are values of every kind that break a rule, and some of no kind.
func unformedValues() map[string]api.Value {
	m := map[string]api.Value{
		"kind -1":              {Kind: -1},
		"kind 7":               {Kind: 7},
		"null with N":          {Kind: api.Null, N: 1},
		"false with Text":      {Kind: api.False, Text: "x"},
		"true with Items":      {Kind: api.True, Items: make([]api.Value, 1)},
		"int with Text":        {Kind: api.Int, Text: "1"},
		"int with Names":       {Kind: api.Int, Names: []string{"a"}},
		"string with N":        {Kind: api.String, N: 1},
		"string of 61 bytes":   {Kind: api.String, Text: strings.Repeat("x", 61)},
		"string of no UTF-8":   {Kind: api.String, Text: "\xff"},
		"array with Names":     {Kind: api.Array, Names: []string{"a"}, Items: make([]api.Value, 1)},
		"array of 25":          {Kind: api.Array, Items: make([]api.Value, 25)},
		"array of unformed":    {Kind: api.Array, Items: []api.Value{{}, {Kind: 7}}},
		"object with N":        {Kind: api.Object, N: 1, Names: []string{"a"}, Items: make([]api.Value, 1)},
		"object without Items": {Kind: api.Object, Names: []string{"a"}},
		"object without Names": {Kind: api.Object, Items: make([]api.Value, 1)},
		"names that fall":      {Kind: api.Object, Names: []string{"b", "a"}, Items: make([]api.Value, 2)},
		"a name twice":         {Kind: api.Object, Names: []string{"a", "a"}, Items: make([]api.Value, 2)},
		"name of 61 bytes":     {Kind: api.Object, Names: []string{"a", strings.Repeat("n", 61)}, Items: make([]api.Value, 2)},
		"name of no UTF-8":     {Kind: api.Object, Names: []string{"a", "\xff"}, Items: make([]api.Value, 2)},
		"object of unformed":   {Kind: api.Object, Names: []string{"a", "b"}, Items: []api.Value{{}, {Kind: 7}}},
		"object of 25":         {Kind: api.Object, Items: make([]api.Value, 25)},
	}
	wide := m["object of 25"]
	for i := range 25 {
		wide.Names = append(wide.Names, string([]byte{'a' + byte(i)}))
	}
	m["object of 25"] = wide
	deep := api.Value{}
	for range 6 {
		deep = api.Value{Kind: api.Object, Names: []string{"a"}, Items: []api.Value{deep}}
	}
	m["7 deep"] = deep
	return m
}

// wrongPaths are texts that are no path.
func wrongPaths() []string {
	long := strings.Repeat("x", api.MaxString+1)
	return []string{
		"", ".", "..", "...", "....",
		".a", "a.", ".a.b", "a.b.", "a..b", "a.b..c", "a..", "..a", ".a.",
		"a.b.c.d.", ".a.b.c.d", "a.b.c..", "a.b.c.d.e", "a.b.c.d.e.f", "0.0.0.0.0",
		strings.Repeat("a.", 50000) + "a", strings.Repeat(".", 50000),
		long, long + ".a", "a." + long, "a." + long + ".b", "a.b.c." + long,
		strings.Repeat("\u20ac", 20) + "x", strings.Repeat("\u00e9", 31), strings.Repeat("x", 100000),
		"\xff", "a\xff", "a.\xff", "\xff.a", "a.\xc3", "\xc3.\xa9", "a.\xe2\x82.b", "\xed\xa0\x80", "\xc0\x80", "\xc0\xae", "\xf4\x90\x80\x80", "a.b.c.\x80",
	}
}

func wantGet(t *testing.T, v api.Value, p, want string) {
	t.Helper()
	got, ok := path.Get(v, p)
	if !ok || printed(got) != want {
		t.Errorf("Get(%s, %q): %v, %v, want %s", printed(v), p, got, ok, want)
	}
}

func wantNothing(t *testing.T, v api.Value, p string) {
	t.Helper()
	got, ok := path.Get(v, p)
	if ok || !json.Same(got, api.Value{}) {
		t.Errorf("Get(%s, %q): %v, %v, want nothing", printed(v), p, got, ok)
	}
}

func wantPut(t *testing.T, v api.Value, p string, x api.Value, want string) {
	t.Helper()
	got, err := path.Put(v, p, x)
	if err != api.OK || printed(got) != want {
		t.Errorf("Put(%s, %q, %s): %s, error %d, want %s", printed(v), p, printed(x), printed(got), err, want)
	}
}

func wantPutError(t *testing.T, v api.Value, p string, x api.Value, want api.Errno) {
	t.Helper()
	got, err := path.Put(v, p, x)
	if err != want || !json.Same(got, api.Value{}) {
		t.Errorf("Put(%s, %q, %s): %v, error %d, want error %d and nothing beside it", printed(v), p, printed(x), got, err, want)
	}
}
