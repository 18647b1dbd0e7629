package path_test

import (
	"strconv"
	"strings"
	"testing"

	"muniment/api"
	"muniment/path"
)

// R5: what is handed in is left as it is, its spare room too, and isn't kept; what is answered is new memory.

// memory gathers where the members of all lists of v stand, their spare room too; it tells whether one stands twice.
type memory struct {
	names map[*string]bool
	items map[*api.Value]bool
	twice bool
}

func memoryOf(l ...api.Value) *memory {
	m := &memory{names: map[*string]bool{}, items: map[*api.Value]bool{}}
	for _, v := range l {
		m.add(v)
	}
	return m
}

func (m *memory) add(v api.Value) {
	names, items := v.Names[:cap(v.Names)], v.Items[:cap(v.Items)]
	for i := range names {
		m.twice = m.twice || m.names[&names[i]]
		m.names[&names[i]] = true
	}
	for i := range items {
		m.twice = m.twice || m.items[&items[i]]
		m.items[&items[i]] = true
	}
	for _, item := range v.Items {
		m.add(item)
	}
}

// wantNew fails if w shares memory with l, or two lists of w share some.
func wantNew(t *testing.T, what string, w api.Value, l ...api.Value) {
	t.Helper()
	if memoryOf(w).twice {
		t.Errorf("%s: two lists of the answer share memory", what)
	}
	old, now := memoryOf(l...), memoryOf(w)
	for p := range now.names {
		if old.names[p] {
			t.Errorf("%s: names of the answer share memory with an argument", what)
		}
	}
	for p := range now.items {
		if old.items[p] {
			t.Errorf("%s: items of the answer share memory with an argument", what)
		}
	}
}

// roomy is v in lists with spare room, in which something stands.
func roomy(v api.Value) api.Value {
	names, items := []string{}, []api.Value{}
	for i, item := range v.Items {
		if v.Kind == api.Object {
			names = append(names, v.Names[i])
		}
		items = append(items, roomy(item))
	}
	names = append(names, "spare", "room", "names")
	items = append(items, api.Value{Kind: api.Int, N: 77}, api.Value{Kind: api.True}, api.Value{Kind: api.String, Text: "room"})
	v.Names, v.Items = names[:len(names)-3], items[:len(items)-3]
	return v
}

// whole tells v, and all that stands in the spare room of its lists.
func whole(v api.Value) string {
	s := strconv.Itoa(v.Kind) + " " + strconv.FormatInt(v.N, 10) + " " + v.Text + strconv.Itoa(len(v.Names)) + strings.Join(v.Names[:cap(v.Names)], ",") + strconv.Itoa(len(v.Items)) + "("
	for _, item := range v.Items[:cap(v.Items)] {
		s += whole(item)
	}
	return s + ")"
}

func TestMemory(t *testing.T) {
	for _, p := range []string{"a", "a.b", "a.b.1", "a.b.2", "a.b.2.c", "a.b.2.d", "a.d", "b", "A", "z", "a.b.3", "x.y", "s.x", "a..b"} {
		v := roomy(read(t, `{"a":{"b":[7,[8],{"c":[]}],"c":{"q":[1]}},"b":[1,[2]],"s":"x"}`))
		x := roomy(read(t, `{"x":["y"]}`))
		before, xBefore := whole(v), whole(x)
		w, err := path.Put(v, p, x)
		wantNew(t, "Put "+p, w, v, x)
		got, ok := path.Get(v, p)
		wantNew(t, "Get "+p, got, v)
		path.Steps(p)
		if whole(v) != before || whole(x) != xBefore {
			t.Errorf("%s: an argument has changed", p)
		}
		text, gotText := printed(w), printed(got)
		spoil(v)
		spoil(x)
		if err == api.OK && printed(w) != text || ok && printed(got) != gotText {
			t.Errorf("%s: the answer hangs on an argument", p)
		}
	}
}

func spoil(v api.Value) {
	for _, item := range v.Items {
		spoil(item)
	}
	for i := range v.Items {
		v.Items[i] = api.Value{Kind: 9}
	}
	for i := range v.Names {
		v.Names[i] = "spoilt"
	}
}

// Arguments that share memory, with one another and in themselves, are taken as values like others.
func TestMemoryOfSharedArguments(t *testing.T) {
	l := roomy(read(t, `[1,{"a":[2]}]`))
	v := api.Value{Kind: api.Object, Names: []string{"a", "b"}, Items: []api.Value{l, l}}
	for p, want := range map[string]string{
		"a":   `{"a":[1,{"a":[2]}],"b":[1,{"a":[2]}]}`,
		"c":   `{"a":[1,{"a":[2]}],"b":[1,{"a":[2]}],"c":[1,{"a":[2]}]}`,
		"b.0": `{"a":[1,{"a":[2]}],"b":[[1,{"a":[2]}],{"a":[2]}]}`,
		"a.1": `{"a":[1,[1,{"a":[2]}]],"b":[1,{"a":[2]}]}`,
	} {
		w, err := path.Put(v, p, l)
		if err != api.OK || printed(w) != want {
			t.Errorf("Put %s: %s, error %d, want %s", p, printed(w), err, want)
		}
		wantNew(t, "Put "+p, w, v, l)
	}
	self := roomy(read(t, `{"a":[1],"b":{}}`))
	for _, p := range []string{"a", "a.0", "b", "b.c", "c"} {
		w, err := path.Put(self, p, self)
		if err != api.OK {
			t.Errorf("%s: error %d", p, err)
		}
		wantGet(t, w, p, `{"a":[1],"b":{}}`)
		wantNew(t, "Put "+p, w, self)
	}
	got, _ := path.Get(api.Value{Kind: api.Object, Names: []string{"v"}, Items: []api.Value{v}}, "v")
	wantNew(t, "Get of shared lists", got, v)
}

// R1: also what holds itself has an end.
func TestValuesThatHoldThemselves(t *testing.T) {
	v := api.Value{Kind: api.Object, Names: []string{"a"}, Items: make([]api.Value, 1)}
	v.Items[0] = v
	if _, ok := path.Get(v, "a.a"); ok {
		t.Error("got")
	}
	for _, args := range [][]api.Value{{v, {}}, {{Kind: api.Object}, v}, {v, v}} {
		if w, err := path.Put(args[0], "a", args[1]); err != api.ErrForm || len(w.Names) > 0 || len(w.Items) > 0 {
			t.Errorf("error %d", err)
		}
	}
}
