package keys_test

import (
	"encoding/binary"
	"math/rand"
	"strings"
	"testing"

	"muniment/api"
	"muniment/json"
	"muniment/keys"
)

// What the tests of this package share. Formed values are written as texts, which layer 1 reads and prints.

func read(t *testing.T, s string) api.Value {
	t.Helper()
	v, err := json.Read(s)
	if err != api.OK {
		t.Fatalf("%q: error %d", s, err)
	}
	return v
}

func readAll(t *testing.T, l ...string) []api.Value {
	t.Helper()
	var values []api.Value
	for _, s := range l {
		values = append(values, read(t, s))
	}
	return values
}

func printed(v api.Value) string {
	s, err := json.Print(v)
	if err != api.OK {
		return "(not formed)"
	}
	if len(s) > 300 {
		return s[:300] + ".."
	}
	return s
}

func printedAll(l []api.Value) string {
	var texts []string
	for _, v := range l {
		texts = append(texts, printed(v))
	}
	return strings.Join(texts, " ")
}

func text(s string) api.Value {
	return api.Value{Kind: api.String, Text: s}
}

func integer(n int64) api.Value {
	return api.Value{Kind: api.Int, N: n}
}

func array(l ...api.Value) api.Value {
	return api.Value{Kind: api.Array, Items: l}
}

// object makes an Object of names, with commas between, and items.
func object(names string, l ...api.Value) api.Value {
	return api.Value{Kind: api.Object, Names: strings.Split(names, ","), Items: l}
}

// named is an Object of one member.
func named(name string, item api.Value) api.Value {
	return api.Value{Kind: api.Object, Names: []string{name}, Items: []api.Value{item}}
}

// nested is v in that many Arrays.
func nested(arrays int, v api.Value) api.Value {
	for range arrays {
		v = array(v)
	}
	return v
}

// nestedObjects is v in that many Objects.
func nestedObjects(objects int, v api.Value) api.Value {
	for range objects {
		v = named("a", v)
	}
	return v
}

// names answers that many names, which rise.
func names(n int) []string {
	var l []string
	for i := range n {
		l = append(l, "n"+string(rune('a'+i)))
	}
	return l
}

// wide is an Array, or an Object, of that many Items, all v.
func wide(kind, n int, v api.Value) api.Value {
	w := api.Value{Kind: kind}
	for range n {
		w.Items = append(w.Items, v)
	}
	if kind == api.Object {
		w.Names = names(n)
	}
	return w
}

// rising are formed values of which each is less than all that follow, the edges of all Kinds among them.
func rising(t *testing.T) []api.Value {
	x59, x60 := strings.Repeat("x", 59), strings.Repeat("x", 60)
	zeros, full := strings.Repeat(`\u0000`, 60), `"`+strings.Repeat("\U0010ffff", 15)+`"`
	return readAll(t,
		"null", "false", "true",
		"-9223372036854775808", "-9223372036854775807", "-4294967297", "-4294967296", "-257", "-256", "-255", "-2", "-1", "0", "1", "2", "127", "128", "254", "255", "256", "257", "65535", "65536", "4294967295", "4294967296", "72057594037927936", "9223372036854775806", "9223372036854775807",
		`""`, `"\u0000"`, `"\u0000\u0000"`, `"`+zeros[:6*59]+`"`, `"`+zeros+`"`, `"\u0000\u0001"`, `"\u0000a"`, `"\u0000`+"\u00ff\"", `"\u0001"`, `"\u0001\u0000"`, `"\u0001\u0001"`, `" "`, `"10"`, `"9"`, `"A"`, `"a"`, `"a\u0000"`, `"a\u0000\u0000"`, `"a\u0000b"`, `"a\u0001"`, `"aa"`, `"ab"`, `"b"`,
		`"`+x59+`"`, `"`+x59+`\u0000"`, `"`+x59+`w"`, `"`+x60+`"`, `"`+x59+`y"`, `"`+x59[1:]+`y"`, "\"\x7f\"", "\"\u0080\"", "\"\u00bf\"", "\"\u00ff\"", "\"\u00ff\\u0000\"", "\"\u00ff\u00ff\"", "\"\u07ff\"", "\"\u0800\"", "\"\uffff\"", "\"\U00010000\"", "\"\U0010ffff\"", full,
		"[]", "[null]", "[null,null]", "[null,{}]", "[false]", "[-9223372036854775808]", "[-1]", "[0]", "[0,1]", "[1]", "[1,null]", "[1,2]", "[1,[]]", "[256]", "[9223372036854775807]", `[""]`, `["",""]`, `["\u0000"]`, `["a"]`, `["a",null]`, `["a\u0000"]`, `["ab"]`,
		"[[]]", "[[],null]", "[[],[]]", "[[null]]", "[[null],null]", "[[null,null]]", "[[[]]]", "[[[[[],[]]]]]", "[[[[[null]]]]]", "[[[[[[]]]]]]", "[[[[[[]]]],null]]", "[[[[[{}]]]]]", "[[[[{}]]]]", "[{}]", "[{},null]", `[{"":null}]`,
		"{}", `{"":null}`, `{"":null,"a":null}`, `{"":false}`, `{"":{}}`, "{\"\\u0000\":null}", "{\"\\u0000\\u0000\":null}", "{\"\\u0001\":null}", `{"a":null}`, `{"a":null,"a\u0000":null}`, `{"a":null,"b":false}`, `{"a":null,"b":false,"c":true}`, `{"a":null,"b":true}`, `{"a":false}`, `{"a":1}`, `{"a":1,"b":0}`, `{"a":2}`, `{"a":"x"}`, `{"a":[]}`, `{"a":[],"b":0}`, `{"a":[null]}`, `{"a":{}}`, `{"a":{},"b":0}`, `{"a":{"a":null}}`, `{"a":{"a":{"a":{"a":{"a":null}}}}}`, `{"a":{"a":{"a":{"a":{"a":{}}}}}}`, `{"a\u0000":null}`, `{"a\u0000":null,"b":0}`, `{"aa":null}`, `{"b":null}`, `{"`+x59+`":[]}`, `{"`+x60+`":[]}`, "{\"\u00ff\":null}", "{\""+strings.Repeat("\U0010ffff", 15)+"\":null}",
	)
}

// unformedValues are values of every kind that break a rule, and some of no kind.
func unformedValues() map[string]api.Value {
	two := make([]api.Value, 2)
	m := map[string]api.Value{
		"null with N":          {Kind: api.Null, N: 1},
		"null with Items":      {Kind: api.Null, Items: two},
		"false with Text":      {Kind: api.False, Text: "x"},
		"true with Names":      {Kind: api.True, Names: []string{"a"}},
		"int with Text":        {Kind: api.Int, N: 1, Text: "1"},
		"int with Items":       {Kind: api.Int, Items: two},
		"string with N":        {Kind: api.String, N: 1},
		"string with Names":    {Kind: api.String, Names: []string{"a"}},
		"string of 61 bytes":   text(strings.Repeat("x", 61)),
		"string with byte 255": text("a\xff"),
		"half a rune":          text("\xe2\x82"),
		"array with N":         {Kind: api.Array, N: 1},
		"array with Names":     {Kind: api.Array, Names: []string{"a", "b"}, Items: two},
		"array of 25":          wide(api.Array, 25, api.Value{}),
		"array of unformed":    array(api.Value{}, api.Value{Kind: 7}),
		"array 7 deep":         nested(6, api.Value{}),
		"object with Text":     {Kind: api.Object, Text: "x"},
		"object without Items": {Kind: api.Object, Names: []string{"a"}},
		"object without Names": {Kind: api.Object, Items: two},
		"too few names":        object("a", two...),
		"names that fall":      object("b,a", two...),
		"a name twice":         object("a,a", two...),
		"name of 61 bytes":     object("a,"+strings.Repeat("n", 61), two...),
		"name with byte 255":   object("a,\xff", two...),
		"object of unformed":   object("a,b", api.Value{}, api.Value{Kind: 7}),
		"object of 25":         wide(api.Object, 25, api.Value{}),
		"object 7 deep":        nestedObjects(6, api.Value{}),
		"900 deep":             nested(900, api.Value{}),
		"holds itself":         holdsItself(),
	}
	for _, kind := range []int{-1 << 62, -256, -1, 7, 255, 256, 1 << 40} {
		m["kind "+string(rune('a'+len(m)))] = api.Value{Kind: kind}
	}
	return m
}

// holdsItself is a value without an end.
func holdsItself() api.Value {
	v := array(api.Value{}, api.Value{})
	v.Items[0], v.Items[1] = v, v
	return v
}

// keyOf is a formed value's key: the chapter's words once more, told in another way.
func keyOf(v api.Value) string {
	s := string("\x01\x02\x03\x04\x05\x06\x07"[v.Kind])
	switch v.Kind {
	case api.Int:
		s += string(binary.BigEndian.AppendUint64(nil, uint64(v.N)^1<<63))
	case api.String:
		s += textOf(v.Text)
	case api.Array:
		for _, item := range v.Items {
			s += keyOf(item)
		}
		s += "\x00"
	case api.Object:
		for i, item := range v.Items {
			s += "\x01" + textOf(v.Names[i]) + keyOf(item)
		}
		s += "\x00"
	}
	return s
}

func textOf(s string) string {
	return strings.ReplaceAll(s, "\x00", "\x00\xff") + "\x00\x00"
}

// compoundOf is the compound key of formed values, however long.
func compoundOf(l []api.Value, down []bool) string {
	s := ""
	for i, v := range l {
		key := []byte(keyOf(v))
		for k := range key {
			if i < len(down) && down[i] {
				key[k] ^= 0xff
			}
		}
		s += string(key)
	}
	return s
}

// downs are lists down for n values: none, shorter ones, those that are as long, and longer ones.
func downs(n int) [][]bool {
	l := [][]bool{nil, {}, {true}, {false}, {true, false}, {false, true}}
	for _, long := range []int{n, n + 1, n + 5} {
		all, even, last := make([]bool, long), make([]bool, long), make([]bool, long)
		for i := range all {
			all[i], even[i], last[i] = true, i%2 == 0, i == n-1
		}
		l = append(l, make([]bool, long), all, even, last)
	}
	return l
}

// drawn is a formed value of few texts and numbers, so that two are often alike, or nearly.
func drawn(r *rand.Rand, levels int) api.Value {
	texts := []string{"", "\x00", "\x00\x00", "\x00\u00ff", "\x01", "a", "a\x00", "aa", "b", "\u00ff", "\U0010ffff"}
	v := api.Value{Kind: r.Intn(7)}
	if levels == 1 {
		v.Kind = r.Intn(5)
	}
	switch v.Kind {
	case api.Int:
		v.N = []int64{-1 << 63, -257, -256, -1, 0, 1, 255, 256, 1<<63 - 1, int64(r.Uint64())}[r.Intn(10)]
	case api.String:
		v.Text = texts[r.Intn(len(texts))]
	case api.Array:
		for range r.Intn(4) {
			v.Items = append(v.Items, drawn(r, levels-1))
		}
	case api.Object:
		for _, name := range texts {
			if r.Intn(8) == 0 {
				v.Names = append(v.Names, name)
				v.Items = append(v.Items, drawn(r, levels-1))
			}
		}
	}
	return v
}

// near is v with perhaps one thing changed, somewhere in it.
func near(r *rand.Rand, v api.Value) api.Value {
	n := len(v.Items)
	if n == 0 || r.Intn(4) == 0 {
		return drawn(r, 2)
	}
	i := r.Intn(n)
	w := v
	w.Items = append([]api.Value{}, v.Items...)
	w.Items[i] = near(r, v.Items[i])
	if r.Intn(3) == 0 { // or without the last members
		w.Items = w.Items[:i]
		w.Names = w.Names[:min(i, len(w.Names))]
	}
	if !json.Formed(w) {
		return v
	}
	return w
}

// wantKey holds what Key answers, and what Read makes of it with other bytes behind it.
func wantKey(t *testing.T, v api.Value, want string) {
	t.Helper()
	b, err := keys.Key(v)
	if err != api.OK || string(b) != want {
		t.Errorf("Key(%s): % x, error %d, want % x", printed(v), b, err, want)
	}
	for _, behind := range []string{"", "\x00", "\x01", "\x05a\x00\x00", "\xff", "\x00\xff\x00\x00"} {
		wantRead(t, want+behind, v, len(want))
	}
}

func wantRead(t *testing.T, b string, want api.Value, size int) {
	t.Helper()
	v, n, err := keys.Read([]byte(b))
	if err != api.OK || n != size || !json.Same(v, want) {
		t.Errorf("Read(% x): %s, %d, error %d, want %s, %d", b, printed(v), n, err, printed(want), size)
	}
}

func wantBad(t *testing.T, b string) {
	t.Helper()
	v, n, err := keys.Read([]byte(b))
	if err != api.ErrBad || n != 0 || !json.Same(v, api.Value{}) {
		t.Errorf("Read(% x): %s, %d, error %d, want error %d and nothing beside it", b, printed(v), n, err, api.ErrBad)
	}
}

// wantCompound holds what Compound answers, and that it is split again.
func wantCompound(t *testing.T, l []api.Value, down []bool, want string) {
	t.Helper()
	b, err := keys.Compound(l, down)
	if err != api.OK || string(b) != want {
		t.Errorf("Compound(%s, %v): % x, error %d, want % x", printedAll(l), down, b, err, want)
	}
	if len(l) > 100 {
		wantSplitError(t, want, down, len(l), api.ErrArg)
		return
	}
	wantSplit(t, want, down, l)
}

func wantCompoundError(t *testing.T, l []api.Value, down []bool, want api.Errno) {
	t.Helper()
	b, err := keys.Compound(l, down)
	if err != want || len(b) != 0 {
		t.Errorf("Compound(%d values, %v): % x, error %d, want error %d and nothing beside it", len(l), down, b, err, want)
	}
}

func wantSplit(t *testing.T, b string, down []bool, want []api.Value) {
	t.Helper()
	l, err := keys.Split([]byte(b), down, len(want))
	if err != api.OK || len(l) != len(want) {
		t.Errorf("Split(% x, %v, %d): %s, error %d, want %s", b, down, len(want), printedAll(l), err, printedAll(want))
		return
	}
	for i, v := range l {
		if !json.Same(v, want[i]) {
			t.Errorf("Split(% x, %v, %d): %s, want %s", b, down, len(want), printedAll(l), printedAll(want))
			return
		}
	}
}

func wantSplitError(t *testing.T, b string, down []bool, n int, want api.Errno) {
	t.Helper()
	l, err := keys.Split([]byte(b), down, n)
	if err != want || len(l) != 0 {
		t.Errorf("Split(% x, %v, %d): %s, error %d, want error %d and nothing beside it", b, down, n, printedAll(l), err, want)
	}
}
