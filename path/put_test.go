package path_test

import (
	"strconv"
	"strings"
	"testing"

	"muniment/api"
	"muniment/path"
)

// P2.2: Put.

func TestPutInPlace(t *testing.T) {
	v := read(t, `{"a":{"b":[7,8,[9]]},"c":null}`)
	for p, want := range map[string]string{
		"a":       `{"a":{"x":1},"c":null}`,
		"c":       `{"a":{"b":[7,8,[9]]},"c":{"x":1}}`,
		"a.b":     `{"a":{"b":{"x":1}},"c":null}`,
		"a.b.0":   `{"a":{"b":[{"x":1},8,[9]]},"c":null}`,
		"a.b.1":   `{"a":{"b":[7,{"x":1},[9]]},"c":null}`,
		"a.b.2":   `{"a":{"b":[7,8,{"x":1}]},"c":null}`,
		"a.b.2.0": `{"a":{"b":[7,8,[{"x":1}]]},"c":null}`,
	} {
		wantPut(t, v, p, read(t, `{"x":1}`), want)
	}
}

func TestPutOfAllKinds(t *testing.T) {
	texts := []string{"null", "false", "true", "0", "-5", `""`, `"s"`, "[]", "[1]", "{}", `{"q":2}`}
	for _, old := range texts {
		for _, s := range texts {
			wantPut(t, read(t, `{"a":`+old+`,"b":[`+old+`]}`), "a", read(t, s), `{"a":`+s+`,"b":[`+old+`]}`)
			wantPut(t, read(t, `{"a":`+old+`,"b":[`+old+`]}`), "b.0", read(t, s), `{"a":`+old+`,"b":[`+s+`]}`)
		}
	}
}

// A member more, at the beginning, the middle and the end, by bytes.
func TestPutMemberMore(t *testing.T) {
	one := read(t, "1")
	for _, c := range []struct{ v, p, want string }{
		{`{}`, "a", `{"a":1}`},
		{`{"b":0}`, "a", `{"a":1,"b":0}`},
		{`{"b":0}`, "c", `{"b":0,"c":1}`},
		{`{"b":0,"d":2}`, "a", `{"a":1,"b":0,"d":2}`},
		{`{"b":0,"d":2}`, "c", `{"b":0,"c":1,"d":2}`},
		{`{"b":0,"d":2}`, "e", `{"b":0,"d":2,"e":1}`},
		{`{"b":0}`, "B", `{"B":1,"b":0}`},
		{`{"ab":0}`, "a", `{"a":1,"ab":0}`},
		{`{"a":0,"b":2}`, "aa", `{"a":0,"aa":1,"b":2}`},
		{`{"1":0,"2":2}`, "10", `{"1":0,"10":1,"2":2}`},
		{`{"0":0,"1":2}`, "00", `{"0":0,"00":1,"1":2}`},
		{"{\"\U00010000\":0,\"z\":2}", "\uffff", "{\"z\":2,\"\uffff\":1,\"\U00010000\":0}"},
		{"{\"z\":0}", "\u00e9", "{\"z\":0,\"\u00e9\":1}"},
		{`{"":0}`, "a", `{"":0,"a":1}`},
		{`{".":0,"a.b":2}`, "a", `{".":0,"a":1,"a.b":2}`},
		{`{"a":{},"b":{}}`, "a.x", `{"a":{"x":1},"b":{}}`},
		{`{"a":{"b":[7,8]}}`, "a.c", `{"a":{"b":[7,8],"c":1}}`},
		{`{"a":[{"c":0}]}`, "a.0.b", `{"a":[{"b":1,"c":0}]}`},
		{`{"a":{"b":{"c":{"e":0}}}}`, "a.b.c.d", `{"a":{"b":{"c":{"d":1,"e":0}}}}`},
		{`{}`, strings.Repeat("n", 60), `{"` + strings.Repeat("n", 60) + `":1}`},
	} {
		wantPut(t, read(t, c.v), c.p, one, c.want)
	}
}

func TestPutNone(t *testing.T) {
	v := read(t, `{"a":{"b":[7,8],"n":null},"d":5,"e":[],"s":"x","t":true,"u":false,"y.z":6}`)
	for _, p := range []string{
		"x.y", "a.x.y", "a.b.x.y", "a.b.2.y", "a.b.0.y", "x.y.z.w", // a step ahead leads to nothing
		"a.b.01.y", "a.b.00.y", "y.z",
		"d.x", "d.0", "s.0", "s.x", "a.n.x", "a.n.0", "t.x", "u.0", "a.b.1.0", // stands in what has no Items
		"a.b.2", "a.b.3", "a.b.24", "a.b.9999", "a.b.10000", "e.0", "e.1", // is no Item's number
		"a.b.00", "a.b.01", "a.b.-1", "a.b.-0", "a.b.+1", "a.b.x", "a.b.1x", "a.b. 1", "a.b.4294967296",
	} {
		wantPutError(t, v, p, read(t, "1"), api.ErrNone)
	}
}

func TestPutByNumbers(t *testing.T) {
	v := read(t, `{"a":`+wideArray(24)+"}")
	for i := range 24 {
		got, err := path.Put(v, "a."+strconv.Itoa(i), read(t, `"x"`))
		if err != api.OK || len(got.Items[0].Items) != 24 {
			t.Fatalf("a.%d: %v, error %d", i, got, err)
		}
		for j, item := range got.Items[0].Items {
			if (item.Kind == api.String) != (i == j) {
				t.Errorf("a.%d: Item %d is %v", i, j, item)
			}
		}
	}
	wantPutError(t, v, "a.24", read(t, "1"), api.ErrNone)
	wantPutError(t, v, "a.01", read(t, "1"), api.ErrNone)
}

func TestPutTooDeep(t *testing.T) {
	for _, c := range []struct {
		v, p string
		most int // Arrays around what is put
	}{
		{`{}`, "a", 4},
		{`{"a":[]}`, "a", 4},
		{`{"a":{}}`, "a.b", 3},
		{`{"a":[[1]]}`, "a.0", 3},
		{`{"a":[[1]]}`, "a.0.0", 2},
		{`{"a":{"b":{"c":{}}}}`, "a.b.c.d", 1},
		{`{"a":[[[[0]]]]}`, "a.0.0.0", 1},
		{`{"a":[[[[0]]]]}`, "a", 4},
	} {
		for n := range 6 {
			for _, core := range []string{"1", "[]", "{}", `""`} {
				x := nested(n, core)
				if n > c.most {
					wantPutError(t, read(t, c.v), c.p, read(t, x), api.ErrLong)
				} else if got, err := path.Put(read(t, c.v), c.p, read(t, x)); err != api.OK {
					t.Errorf("Put(%s, %q, %s): %v, error %d", c.v, c.p, x, got, err)
				} else {
					wantGet(t, got, c.p, x)
				}
			}
		}
	}
	wantPut(t, read(t, `{"a":[[[[0]]]]}`), "a", read(t, "1"), `{"a":1}`)
}

func TestPutTooManyMembers(t *testing.T) {
	one := read(t, "1")
	full, room := wideObject(24), wideObject(23)
	wantPut(t, read(t, room), "a", one, `{"a":1,`+room[1:])
	wantPut(t, read(t, room), "c", one, room[:len(room)-1]+`,"c":1}`)
	for _, name := range []string{"a", "b0003x", "c"} {
		wantPutError(t, read(t, full), name, one, api.ErrLong)
		wantPutError(t, read(t, `{"x":[`+full+`]}`), "x.0."+name, one, api.ErrLong)
		if _, err := path.Put(read(t, `{"x":[`+room+`]}`), "x.0."+name, one); err != api.OK {
			t.Errorf("24th member %s: error %d", name, err)
		}
	}
	// What is full may be changed, be put, and stand beside a member more.
	wantPut(t, read(t, full), "b0005", read(t, "5"), full)
	wantPut(t, read(t, full), "b0000", read(t, "[]"), strings.Replace(full, ":0,", ":[],", 1))
	wantPut(t, read(t, `{"x":`+full+`}`), "y", one, `{"x":`+full+`,"y":1}`)
	wantPut(t, read(t, `{"x":0}`), "x", read(t, full), `{"x":`+full+`}`)
	wantPut(t, read(t, `{"x":[0]}`), "x.0", read(t, wideArray(24)), `{"x":[`+wideArray(24)+`]}`)
}

func TestPutByNoPath(t *testing.T) {
	v := read(t, `{"0":[[[[1]]]],"a":{"b":{"c":{"d":{"e":1}}}},"x":1}`)
	for _, p := range wrongPaths() {
		wantPutError(t, v, p, read(t, "1"), api.ErrForm)
		wantPutError(t, api.Value{Kind: api.Object, Names: []string{p}, Items: make([]api.Value, 1)}, p, read(t, "1"), api.ErrForm)
	}
}

func TestPutIntoNoObject(t *testing.T) {
	for _, s := range []string{"null", "false", "true", "0", "7", `""`, `"a"`, "[]", "[1,2]", `[{"a":1}]`} {
		for _, p := range []string{"0", "a", "0.a", "5"} {
			wantPutError(t, read(t, s), p, read(t, "1"), api.ErrForm)
		}
	}
}

func TestPutUnformed(t *testing.T) {
	good := read(t, `{"a":1}`)
	for _, u := range unformedValues() {
		wantPutError(t, u, "a", read(t, "1"), api.ErrForm)
		wantPutError(t, u, "a.0", read(t, "1"), api.ErrForm)
		wantPutError(t, good, "a", u, api.ErrForm)
		wantPutError(t, good, "b", u, api.ErrForm)
		wantPutError(t, u, "a", u, api.ErrForm)
		// What isn't formed is not mended by being replaced, nor overlooked beside the path.
		holds := api.Value{Kind: api.Object, Names: []string{"a", "b"}, Items: []api.Value{u, {}}}
		wantPutError(t, holds, "a", read(t, "1"), api.ErrForm)
		wantPutError(t, holds, "b", read(t, "1"), api.ErrForm)
		wantPutError(t, holds, "c", read(t, "1"), api.ErrForm)
	}
}

// R2: form goes ahead of none, and none ahead of long.
func TestPutErrorsInOrder(t *testing.T) {
	deep, bad := read(t, nested(5, "1")), api.Value{Kind: 7}
	v := read(t, `{"a":{"b":1},"c":[]}`)
	for _, p := range []string{"x.y", "a.b.c", "c.0", "a.x.y.z"} {
		wantPutError(t, v, p, bad, api.ErrForm)
		wantPutError(t, v, p, deep, api.ErrNone)
		wantPutError(t, read(t, "[1]"), p, deep, api.ErrForm)
	}
	wantPutError(t, v, "x..y", deep, api.ErrForm)
	wantPutError(t, v, "a.b.c.d.e", deep, api.ErrForm)
	wantPutError(t, v, "a.b", deep, api.ErrLong)
	wantPutError(t, read(t, wideObject(24)), "a.b", deep, api.ErrNone)
}
