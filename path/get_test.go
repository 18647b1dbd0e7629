package path_test

import (
	"slices"
	"strconv"
	"strings"
	"testing"
	"unicode/utf8"

	"muniment/api"
	"muniment/path"
)

// P2.1: Steps.

func wantSteps(t *testing.T, p string, want ...string) {
	t.Helper()
	got, err := path.Steps(p)
	if err != api.OK || !slices.Equal(got, want) {
		t.Errorf("Steps(%q): %q, error %d, want %q", p, got, err, want)
	}
}

func wantNoSteps(t *testing.T, p string) {
	t.Helper()
	got, err := path.Steps(p)
	if err != api.ErrForm || len(got) > 0 {
		t.Errorf("Steps(%q): %q, error %d, want error form and nothing beside it", p[:min(len(p), 200)], got, err)
	}
}

func TestSteps(t *testing.T) {
	most := strings.Repeat("x", api.MaxString)
	runes := strings.Repeat("\u20ac", 20)
	wantSteps(t, "a", "a")
	wantSteps(t, "a.b", "a", "b")
	wantSteps(t, "a.b.c.d", "a", "b", "c", "d")
	wantSteps(t, "bb.a.bb.a", "bb", "a", "bb", "a")
	wantSteps(t, "0.00.01.12345", "0", "00", "01", "12345")
	wantSteps(t, most, most)
	wantSteps(t, most+".a."+runes+"."+most, most, "a", runes, most)
	wantSteps(t, " . \n.\x00.\"", " ", " \n", "\x00", "\"")
	wantSteps(t, "$a.-.\u00e9\ufffd.\U0010ffff", "$a", "-", "\u00e9\ufffd", "\U0010ffff")
	wantSteps(t, "\uff0e.\u3002", "\uff0e", "\u3002") // other points than the point
}

func TestStepsOfNoPath(t *testing.T) {
	for _, p := range wrongPaths() {
		wantNoSteps(t, p)
	}
}

// expectedSteps asks the words of the chapter one by one.
func expectedSteps(p string) ([]string, bool) {
	l := strings.Split(p, ".")
	for _, step := range l {
		if len(step) < 1 || len(step) > 60 || !utf8.ValidString(step) {
			return nil, false
		}
	}
	return l, len(l) <= 4
}

// textsOf answers all texts of at most n of these pieces.
func textsOf(n int, pieces ...string) []string {
	all, last := []string{""}, []string{""}
	for range n {
		var next []string
		for _, s := range last {
			for _, piece := range pieces {
				next = append(next, s+piece)
			}
		}
		all, last = append(all, next...), next
	}
	return all
}

func TestStepsOfManyTexts(t *testing.T) {
	texts := textsOf(7, ".", "a", "\xc3", "\xa9")
	texts = append(texts, textsOf(5, ".", "a", strings.Repeat("\u20ac", 20), strings.Repeat("x", 59))...)
	for _, s := range texts {
		if want, ok := expectedSteps(s); ok {
			wantSteps(t, s, want...)
		} else {
			wantNoSteps(t, s)
		}
	}
}

func TestStepsAreNewMemory(t *testing.T) {
	l, _ := path.Steps("a.b")
	l[0], l[1] = "x", "y"
	wantSteps(t, "a.b", "a", "b")
}

// P2.1: Get.

func TestGet(t *testing.T) {
	v := read(t, `{"a":{"b":[7,8]},"c":null,"d":"x","e":[],"f":{},"g":[[1,[2,{"h":3}]],false]}`)
	for p, want := range map[string]string{
		"a":       `{"b":[7,8]}`,
		"a.b":     "[7,8]",
		"a.b.0":   "7",
		"a.b.1":   "8",
		"c":       "null",
		"d":       `"x"`,
		"e":       "[]",
		"f":       "{}",
		"g":       `[[1,[2,{"h":3}]],false]`,
		"g.0":     `[1,[2,{"h":3}]]`,
		"g.1":     "false",
		"g.0.0":   "1",
		"g.0.1":   `[2,{"h":3}]`,
		"g.0.1.0": "2",
		"g.0.1.1": `{"h":3}`,
	} {
		wantGet(t, v, p, want)
	}
	for _, p := range []string{"A", "b", "aa", "0", "h", "a.a", "a.0", "a.c", "a.b.2", "a.b.01", "a.b.b", "a.b.1.x", "a.b.1.0", "c.a", "c.0", "d.0", "d.x", "e.0", "f.a", "f.0", "g.2", "g.1.0", "g.0.1.2", "g.0.1.1.h", "g.0.1.1.0", "x.a", "a.x.b", "a.b.x.0"} {
		wantNothing(t, v, p)
	}
}

// v need not be an Object.
func TestGetOfAllKinds(t *testing.T) {
	for _, s := range []string{"null", "false", "true", "0", "-1", `"a"`, `""`, "[]", "{}"} {
		for _, p := range []string{"0", "a", "-1", "0.0", "a.a"} {
			wantNothing(t, read(t, s), p)
		}
	}
	wantGet(t, read(t, "[5,6]"), "1", "6")
	wantGet(t, read(t, nested(5, "1")), "0.0.0.0", "[1]")
	wantGet(t, read(t, nested(4, "1")), "0.0.0.0", "1")
	wantGet(t, read(t, `{"a":{"a":{"a":{"a":{"a":9}}}}}`), "a.a.a.a", `{"a":9}`)
}

// Under a name all texts may stand, in an Array no others than its numbers.
func TestGetByNumbers(t *testing.T) {
	a := read(t, wideArray(24))
	for i := range 24 {
		wantGet(t, a, strconv.Itoa(i), strconv.Itoa(i))
	}
	wrong := []string{"24", "25", "99", "100", "999", "1000", "9999", "10000", "12345", "00", "01", "000", "0000", "0001", "0010", "00000", "00001", "023", "-0", "-1", "+0", "+1", "1 ", " 1", "1e0", "0x1", "0b1", "1_0", "1-", "a", "1a", "a1", "\u0661", "\uff11", "\x01", "\x000", "4294967296", "4294967297", "18446744073709551616", "18446744073709551617", strings.Repeat("0", 60), strings.Repeat("9", 60)}
	for _, p := range wrong {
		wantNothing(t, a, p)
		wantNothing(t, read(t, `{"x":`+wideArray(24)+"}"), "x."+p)
	}
	for _, p := range append(wrong, "0", "1", "23") {
		v := api.Value{Kind: api.Object, Names: []string{p}, Items: []api.Value{{Kind: api.Int, N: 3}}}
		wantGet(t, v, p, "3")
	}
	wantNothing(t, read(t, `{"0":1,"1":2}`), "00")
	wantNothing(t, read(t, `{"00":1,"01":2}`), "0")
	wantNothing(t, read(t, `{"00":1,"01":2}`), "1")
}

func TestGetByEachName(t *testing.T) {
	v := read(t, wideObject(24))
	for i, name := range v.Names {
		wantGet(t, v, name, strconv.Itoa(i))
		wantNothing(t, v, name[1:])
		wantNothing(t, v, name+"0")
		wantNothing(t, v, name[:4])
	}
	most := strings.Repeat("n", 60)
	wantGet(t, read(t, `{"`+most+`":{"`+most+`":4}}`), most+"."+most, "4")
	wantGet(t, read(t, "{\"A\":0,\"Z\":1,\"a\":2,\"\u00e9\":3,\"\uffff\":4,\"\U00010000\":5}"), "\uffff", "4")
	wantGet(t, read(t, "{\"A\":0,\"Z\":1,\"a\":2,\"\u00e9\":3,\"\uffff\":4,\"\U00010000\":5}"), "\U00010000", "5")
	wantGet(t, read(t, `{"\u0000":1,"\n":2,"\"":3}`), "\n", "2")
}

// Names with points, and the empty one, can't be said by a path.
func TestGetWithOtherNames(t *testing.T) {
	v := read(t, `{"":0,".":1,"a":{"b":2,"":3},"a.b":4,"a.c":5}`)
	wantGet(t, v, "a.b", "2")
	for _, p := range []string{"", ".", "a.c", "a.", "a.b."} {
		wantNothing(t, v, p)
	}
}

func TestGetByNoPath(t *testing.T) {
	deep := read(t, `{"0":[[[[1]]]],"a":{"b":{"c":{"d":{"e":1}}}},"x":1}`)
	for _, p := range wrongPaths() {
		wantNothing(t, deep, p)
		wantNothing(t, api.Value{Kind: api.Object, Names: []string{p}, Items: make([]api.Value, 1)}, p)
	}
	wantNothing(t, read(t, nested(5, "1")), "0.0.0.0.0")
}

// Nothing is got of a value that isn't formed, wherever the fault lies.
func TestGetOfUnformed(t *testing.T) {
	for name, v := range unformedValues() {
		if got, ok := path.Get(v, "a"); ok || printed(got) != "null" {
			t.Errorf("%s: got by a: %v, %v", name, got, ok)
		}
		if got, ok := path.Get(v, "0"); ok || printed(got) != "null" {
			t.Errorf("%s: got by 0: %v, %v", name, got, ok)
		}
		for _, beside := range []api.Value{
			{Kind: api.Object, Names: []string{"a", "b"}, Items: []api.Value{{Kind: api.Int, N: 1}, v}},
			{Kind: api.Object, Names: []string{"A", "a"}, Items: []api.Value{v, {Kind: api.Int, N: 1}}},
		} {
			if got, ok := path.Get(beside, "a"); ok || printed(got) != "null" {
				t.Errorf("%s stands beside: got %v, %v", name, got, ok)
			}
		}
	}
}
