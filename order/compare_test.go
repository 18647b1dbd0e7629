package order_test

import (
	"math/rand"
	"strconv"
	"strings"
	"testing"

	"muniment/api"
	"muniment/json"
	"muniment/order"
)

// P3.1: Compare.

func wantCompare(t *testing.T, a, b api.Value, want int) {
	t.Helper()
	if got := order.Compare(a, b); got != want {
		t.Errorf("Compare(%s, %s): %d, want %d", printed(a), printed(b), got, want)
	}
}

// wantLess holds the other way round too, and each against itself.
func wantLess(t *testing.T, a, b api.Value) {
	t.Helper()
	wantCompare(t, a, b, -1)
	wantCompare(t, b, a, 1)
	wantCompare(t, a, a, 0)
	wantCompare(t, b, b, 0)
}

func TestCompareRising(t *testing.T) {
	l := readAll(t, rising()...)
	for i, a := range l {
		for _, b := range l[:i] {
			wantLess(t, b, a)
		}
	}
}

// The bytes by which other tests expect an order tell the one that is written out.
func TestExpectedRises(t *testing.T) {
	l := readAll(t, rising()...)
	for i := range l[1:] {
		if expected(l[i], l[i+1]) != -1 {
			t.Errorf("%s isn't less than %s", printed(l[i]), printed(l[i+1]))
		}
	}
}

func TestCompareExamples(t *testing.T) {
	l := readAll(t, "null", "false", "true", "-1", "2", `""`, `"a"`, `"ab"`, "[]", "[1]", "[1,2]", "{}", `{"a":1}`, `{"a":2}`, `{"b":0}`)
	for i := range l[1:] {
		wantLess(t, l[i], l[i+1])
	}
}

// Kinds go ahead of all that values hold.
func TestCompareKinds(t *testing.T) {
	kinds := [][]string{
		{"null"}, {"false"}, {"true"},
		{"-9223372036854775808", "0", "9223372036854775807"},
		{`""`, `"0"`, "\"\U0010ffff\""},
		{"[]", "[null]", `[{"a":{}}]`},
		{"{}", `{"":null}`, `{"a":{}}`},
	}
	for i, lower := range kinds {
		for _, higher := range kinds[i+1:] {
			for _, a := range lower {
				for _, b := range higher {
					wantLess(t, read(t, a), read(t, b))
					wantLess(t, read(t, "["+a+"]"), read(t, "["+b+"]"))
					wantLess(t, read(t, `{"x":`+a+`,"y":1}`), read(t, `{"x":`+b+`,"y":0}`))
				}
			}
		}
	}
}

// filled is the text of an Array, or of an Object, of n members 5, but of one that is x.
func filled(object bool, n, at int, x string) string {
	var l []string
	for i := range n {
		item := "5"
		if i == at {
			item = x
		}
		if object {
			item = `"b` + strconv.Itoa(200+i) + `":` + item
		}
		l = append(l, item)
	}
	if object {
		return "{" + strings.Join(l, ",") + "}"
	}
	return "[" + strings.Join(l, ",") + "]"
}

// The first member that differs decides, wherever it stands, whatever follows, and however many there are.
func TestCompareAtEachMember(t *testing.T) {
	for _, object := range []bool{false, true} {
		whole := read(t, filled(object, 24, -1, ""))
		for i := range 24 {
			low, high := read(t, filled(object, 24, i, "4")), read(t, filled(object, 24, i, "6"))
			wantLess(t, low, whole)
			wantLess(t, whole, high)
			wantLess(t, low, high)
			for k := range i {
				wantLess(t, high, read(t, filled(object, 24, k, "6")))
				wantLess(t, read(t, filled(object, 24, k, "4")), low)
			}
			for n := range 24 {
				short := read(t, filled(object, n, i, "6"))
				if i < n {
					wantLess(t, whole, short)
				} else {
					wantLess(t, short, whole)
				}
			}
		}
	}
}

// Of Objects a name decides ahead of its Item, and an Item ahead of the next name.
func TestCompareNames(t *testing.T) {
	whole := read(t, filled(true, 24, -1, ""))
	for i := range 24 {
		name := `"b` + strconv.Itoa(200+i)
		for _, item := range []string{":null", ":{}"} {
			wantLess(t, read(t, strings.Replace(filled(true, 24, -1, ""), name+`":5`, `"b`+strconv.Itoa(199+i)+`x"`+item, 1)), whole)
			wantLess(t, whole, read(t, strings.Replace(filled(true, 24, -1, ""), name+`":5`, name+` "`+item, 1)))
		}
	}
	wantLess(t, read(t, `{"a":9,"b":9}`), read(t, `{"a":9,"c":1}`))
	wantLess(t, read(t, `{"a":1,"c":1}`), read(t, `{"a":2,"b":1}`))
}

// A list of none may be nil or empty, and means the same.
func TestCompareListsOfNone(t *testing.T) {
	for _, s := range []string{"null", "false", "true", "0", `"a"`, "[]", "{}"} {
		for _, with := range marked(read(t, s)) {
			for _, without := range marked(read(t, s)) {
				wantCompare(t, with, without, 0)
			}
			wantLess(t, with, read(t, `{"":null}`))
		}
	}
	for _, a := range marked(read(t, "[]")) {
		for _, o := range marked(read(t, "{}")) {
			wantLess(t, a, o)
			wantLess(t, a, read(t, "[null]"))
		}
	}
}

func TestCompareUnformed(t *testing.T) {
	for what, u := range unformedValues() {
		if json.Formed(u) {
			t.Fatal(what)
		}
		for _, s := range rising() {
			v := read(t, s)
			wantCompare(t, u, v, 0)
			wantCompare(t, v, u, 0)
		}
		for _, w := range unformedValues() {
			wantCompare(t, u, w, 0)
		}
	}
}

// Also where something ahead of it would decide.
func TestCompareUnformedWithin(t *testing.T) {
	good := readAll(t, "null", "0", "[0,1]", "[2,1]", `{"a":0}`, `{"b":0}`, `{"a":2,"b":0}`)
	for _, u := range unformedValues() {
		one := api.Value{Kind: api.Int, N: 1}
		for _, holds := range []api.Value{
			{Kind: api.Array, Items: []api.Value{one, u}},
			{Kind: api.Array, Items: []api.Value{one, u, one}},
			{Kind: api.Object, Names: []string{"a", "b"}, Items: []api.Value{one, u}},
			{Kind: api.Array, Items: []api.Value{one, {Kind: api.Array, Items: []api.Value{u}}}},
		} {
			for _, v := range good {
				wantCompare(t, holds, v, 0)
				wantCompare(t, v, holds, 0)
			}
			wantCompare(t, holds, holds, 0)
		}
	}
}

func TestCompareHasAnEnd(t *testing.T) {
	v, one := holdsItself(), read(t, "1")
	for _, args := range [][2]api.Value{{v, v}, {v, one}, {one, v}} {
		if got := order.Compare(args[0], args[1]); got != 0 {
			t.Error(got)
		}
	}
}

func TestCompareMany(t *testing.T) {
	r := rand.New(rand.NewSource(1))
	for range 50000 {
		a := drawn(r, 1+r.Intn(6))
		b := drawn(r, 1+r.Intn(6))
		wantCompare(t, a, b, expected(a, b))
		b = near(r, a)
		wantCompare(t, a, b, expected(a, b))
	}
}
