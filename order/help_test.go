package order_test

import (
	"bytes"
	"encoding/binary"
	"math/rand"
	"strings"
	"testing"

	"muniment/api"
	"muniment/json"
)

// What the tests of this package share. Formed values are written as texts, which layer 1 reads and prints.

func read(t *testing.T, s string) api.Value {
	t.Helper()
	v, err := json.Read(s)
	if err != api.OK {
		t.Fatalf("%q: error %d", s, err)
	}
	return v
}

func readAll(t *testing.T, l ...string) []api.Value {
	t.Helper()
	var values []api.Value
	for _, s := range l {
		values = append(values, read(t, s))
	}
	return values
}

func printed(v api.Value) string {
	s, err := json.Print(v)
	if err != api.OK {
		return "(not formed)"
	}
	return s
}

func printedAll(l []api.Value) string {
	var texts []string
	for _, v := range l {
		texts = append(texts, printed(v))
	}
	return strings.Join(texts, " ")
}

// rising are texts of values of which each is less than all that follow: the chapter's words, case by case.
func rising() []string {
	x59, x60 := strings.Repeat("x", 59), strings.Repeat("x", 60)
	return []string{
		"null", "false", "true",
		"-9223372036854775808", "-9223372036854775807", "-4294967297", "-4294967296", "-256", "-10", "-9", "-2", "-1", "0", "1", "2", "9", "10", "255", "256", "4294967295", "4294967296", "9223372036854775806", "9223372036854775807",
		// byte by byte: neither by numbers, nor by letters, nor by code units
		`""`, `"\u0000"`, `"\u0000\u0000"`, `"\u0000a"`, `"\u0001"`, `" "`, `"10"`, `"9"`, `"A"`, `"Z"`, `"a"`, `"a\u0000"`, `"aa"`, `"ab"`, `"abc"`, `"b"`, `"` + x59 + `"`, `"` + x59 + `w"`, `"` + x60 + `"`, `"` + x59 + `y"`, `"z"`,
		"\"\x7f\"", "\"\u0080\"", "\"\u00bf\"", "\"\u00c0\"", "\"\u00e9\"", "\"\u00e9a\"", "\"\u00e9\u00e9\"", "\"\u00ea\"", "\"\u07ff\"", "\"\u0800\"", "\"\ud7ff\"", "\"\uffff\"", "\"\U00010000\"", "\"\U0010ffff\"",
		// Item by Item, whatever their Kinds; the beginning first
		"[]", "[null]", "[null,null]", "[null,{}]", "[false]", "[true]", "[-9223372036854775808]", "[-1]", "[0]", "[0,1,2]", "[0,1,3]", "[0,2,2]", "[1]", "[1,0]", "[1,2]", "[1,2,0]", "[1,2,3]", "[1,2,3,4]", "[1,2,4]", "[1,3]", "[1,3,3]", "[2]", "[2,1,1]", "[9223372036854775807]",
		`[""]`, `["",""]`, `["a"]`, `["a","b"]`, `["a","b","c"]`, `["ab"]`, `["b"]`, "[\"\x7f\"]", "[\"\u0080\"]",
		"[[]]", "[[],null]", "[[],[]]", "[[null]]", "[[1]]", "[[1],0]", "[[1,1]]", "[[2]]", "[[[]]]", "[[[1]]]", "[[[2]]]", "[[[[[1]]]]]", "[[[[[1,1]]]]]", "[[[[[2]]]]]", "[{}]", `[{"a":1}]`, `[{"a":1},1]`, `[{"a":2}]`, `[{"b":1}]`,
		// member by member, first the name, then the Item; the beginning first
		"{}", `{"":0}`, `{"":0,"a":0}`, `{"":1}`, "{\"\\u0000\":9}", `{"10":0}`, `{"9":0}`, `{"A":{}}`, `{"a":null}`, `{"a":false}`,
		`{"a":1}`, `{"a":1,"aa":9}`, `{"a":1,"b":0}`, `{"a":1,"b":0,"c":0}`, `{"a":1,"b":2}`, `{"a":1,"b":2,"c":2}`, `{"a":1,"b":2,"c":3}`, `{"a":1,"b":2,"c":3,"d":0}`, `{"a":1,"b":2,"c":4}`, `{"a":1,"b":2,"d":0}`, `{"a":1,"b":3,"c":3}`, `{"a":1,"c":0}`, `{"a":1,"c":0,"d":3}`,
		`{"a":2}`, `{"a":2,"b":0}`, `{"a":2,"b":2,"c":3}`, `{"a":"x"}`, `{"a":[]}`, `{"a":[1]}`, `{"a":[1],"b":0}`, `{"a":[1,1]}`, `{"a":{}}`, `{"a":{"a":1}}`, `{"a":{"a":1},"b":0}`, `{"a":{"a":2}}`, `{"a":{"b":1}}`, `{"a":{"b":{"c":{"d":{"e":1}}}}}`, `{"a":{"b":{"c":{"d":{"e":2}}}}}`, `{"a":{"b":{"c":{"d":{"f":1}}}}}`,
		`{"aa":0}`, `{"b":-1}`, `{"b":0}`, `{"b":0,"c":3}`, `{"b":2,"c":3}`, "{\"\x7f\":1}", "{\"\u0080\":0}", "{\"\u00e9\":0}", "{\"\uffff\":1}", "{\"\U00010000\":0}",
	}
}

// unformedValues are values of every kind that break a rule, and some of no kind.
func unformedValues() map[string]api.Value {
	two := make([]api.Value, 2)
	m := map[string]api.Value{
		"null with N":          {Kind: api.Null, N: 1},
		"null with Items":      {Kind: api.Null, Items: two},
		"false with Text":      {Kind: api.False, Text: "x"},
		"true with Names":      {Kind: api.True, Names: []string{"a"}},
		"int with Text":        {Kind: api.Int, N: 1, Text: "1"},
		"int with Items":       {Kind: api.Int, Items: two},
		"string with N":        {Kind: api.String, N: 1},
		"string of 61 bytes":   {Kind: api.String, Text: strings.Repeat("x", 61)},
		"string of no UTF-8":   {Kind: api.String, Text: "a\xff"},
		"array with N":         {Kind: api.Array, N: 1},
		"array with Names":     {Kind: api.Array, Names: []string{"a", "b"}, Items: two},
		"array of 25":          {Kind: api.Array, Items: make([]api.Value, 25)},
		"array of unformed":    {Kind: api.Array, Items: []api.Value{{}, {Kind: 7}}},
		"object with Text":     {Kind: api.Object, Text: "x"},
		"object without Items": {Kind: api.Object, Names: []string{"a"}},
		"object without Names": {Kind: api.Object, Items: two},
		"too few names":        {Kind: api.Object, Names: []string{"a"}, Items: two},
		"names that fall":      {Kind: api.Object, Names: []string{"b", "a"}, Items: two},
		"a name twice":         {Kind: api.Object, Names: []string{"a", "a"}, Items: two},
		"name of 61 bytes":     {Kind: api.Object, Names: []string{"a", strings.Repeat("n", 61)}, Items: two},
		"name of no UTF-8":     {Kind: api.Object, Names: []string{"a", "\xff"}, Items: two},
		"object of unformed":   {Kind: api.Object, Names: []string{"a", "b"}, Items: []api.Value{{}, {Kind: 7}}},
		"object of 25":         {Kind: api.Object, Names: strings.Split("abcdefghijklmnopqrstuvwxy", ""), Items: make([]api.Value, 25)},
		"kind of no value":     {Kind: -1},
		"kind 7":               {Kind: 7},
		"least kind":           {Kind: -1 << 62},
		"greatest kind":        {Kind: 1 << 62},
	}
	deep, wide := api.Value{}, api.Value{}
	for range 6 {
		deep = api.Value{Kind: api.Array, Items: []api.Value{deep}}
		wide = api.Value{Kind: api.Object, Names: []string{"a", "b"}, Items: []api.Value{{}, wide}}
	}
	m["array 7 deep"], m["object 7 deep"] = deep, wide
	return m
}

// holdsItself is a value without an end.
func holdsItself() api.Value {
	v := api.Value{Kind: api.Array, Items: make([]api.Value, 2)}
	v.Items[0], v.Items[1] = v, v
	return v
}

// bytesOf writes a formed value so that the bytes of two are in their order: the chapter's words once more, told in another way.
func bytesOf(v api.Value) []byte {
	b := []byte{byte(v.Kind)}
	switch v.Kind {
	case api.Int:
		b = binary.BigEndian.AppendUint64(b, uint64(v.N)^1<<63)
	case api.String:
		b = appendText(b, v.Text)
	case api.Array, api.Object:
		for i, item := range v.Items {
			b = append(b, 1) // a member more is greater than an end
			if v.Kind == api.Object {
				b = appendText(b, v.Names[i])
			}
			b = append(b, bytesOf(item)...)
		}
		b = append(b, 0)
	}
	return b
}

func appendText(b []byte, s string) []byte {
	for i := range len(s) {
		b = append(b, 1, s[i])
	}
	return append(b, 0)
}

// expected is what Compare answers of two formed values.
func expected(a, b api.Value) int {
	return bytes.Compare(bytesOf(a), bytesOf(b))
}

// drawn is a formed value of few texts and numbers, so that two are often alike, or nearly.
func drawn(r *rand.Rand, levels int) api.Value {
	texts := []string{"", "\x00", "a", "a\x00", "aa", "b", "\x7f", "\u0080", "\u00e9", "\uffff", "\U00010000"}
	v := api.Value{Kind: r.Intn(7)}
	if levels == 1 {
		v.Kind = r.Intn(5)
	}
	switch v.Kind {
	case api.Int:
		v.N = []int64{-1 << 63, -256, -1, 0, 1, 255, 1<<63 - 1}[r.Intn(7)]
	case api.String:
		v.Text = texts[r.Intn(len(texts))]
	case api.Array:
		for range r.Intn(4) {
			v.Items = append(v.Items, drawn(r, levels-1))
		}
	case api.Object:
		for _, name := range texts {
			if r.Intn(8) == 0 {
				v.Names = append(v.Names, name)
				v.Items = append(v.Items, drawn(r, levels-1))
			}
		}
	}
	return v
}

// near is v with perhaps one thing changed, somewhere in it.
func near(r *rand.Rand, v api.Value) api.Value {
	n := len(v.Items)
	if n == 0 || r.Intn(4) == 0 {
		return drawn(r, 2)
	}
	i := r.Intn(n)
	w := v
	w.Items = append([]api.Value{}, v.Items...)
	w.Items[i] = near(r, v.Items[i])
	if r.Intn(3) == 0 { // or without the last members
		w.Items = w.Items[:i]
		w.Names = w.Names[:min(i, len(w.Names))]
	}
	if !json.Formed(w) {
		return v
	}
	return w
}
