package path_test

import (
	"math/rand"
	"strconv"
	"strings"
	"testing"

	"muniment/api"
	"muniment/json"
	"muniment/path"
)

// P2.3: what is put there is got there; all other places stay.

// A place is told by its steps, joined by a byte that no name has: so names with points, and the empty one, have their places too.
const between = "\xff"

// places answers what stands at each place in v, at any depth, without a step at "".
func places(v api.Value) map[string]api.Value {
	m := map[string]api.Value{}
	gather(m, "", v)
	return m
}

func gather(m map[string]api.Value, at string, v api.Value) {
	m[at] = v
	for i, item := range v.Items {
		step := strconv.Itoa(i)
		if v.Kind == api.Object {
			step = v.Names[i]
		}
		gather(m, at+between+step, item)
	}
}

// placeOf tells a path's place, as places does.
func placeOf(p string) string {
	return between + strings.Join(strings.Split(p, "."), between)
}

// expectedError asks the words of the chapter of a v, a path and an x that are formed.
func expectedError(v api.Value, p string, x api.Value) api.Errno {
	all, at := places(v), placeOf(p)
	parent, ok := all[at[:strings.LastIndex(at, between)]]
	_, there := all[at]
	switch {
	case !ok || parent.Kind < api.Array || parent.Kind == api.Array && !there:
		return api.ErrNone
	case strings.Count(at, between)+json.Depth(x) > 6 || !there && len(parent.Items) == 24:
		return api.ErrLong
	}
	return api.OK
}

// wantBack puts x into v, and holds all places of both against each other.
func wantBack(t *testing.T, v api.Value, p string, x api.Value) bool {
	t.Helper()
	want := expectedError(v, p, x)
	if want != api.OK {
		wantPutError(t, v, p, x, want)
		return false
	}
	w, err := path.Put(v, p, x)
	if err != api.OK || !json.Formed(w) {
		t.Errorf("Put(%s, %q, %s): %s, error %d", printed(v), p, printed(x), printed(w), err)
		return false
	}
	wantGet(t, w, p, printed(x))
	if !othersStay(places(v), places(w), placeOf(p)) {
		t.Errorf("Put(%s, %q, %s): %s: another place has changed", printed(v), p, printed(x), printed(w))
	}
	return true
}

// othersStay tells whether both have the same places and values, but at that one, those in it, and those that it is in.
func othersStay(before, behind map[string]api.Value, at string) bool {
	other := func(place string) bool {
		return !strings.HasPrefix(at+between, place+between) && !strings.HasPrefix(place+between, at+between)
	}
	count := 0
	for place, old := range before {
		now, ok := behind[place]
		if strings.HasPrefix(at, place+between) && now.Kind != old.Kind {
			return false
		}
		if other(place) {
			count++
			if !ok || !json.Same(old, now) {
				return false
			}
		}
	}
	for place := range behind {
		if other(place) {
			count--
		}
	}
	return count == 0
}

// drawn is a formed value with few names, so that paths meet them.
func drawn(r *rand.Rand, kind, levels int) api.Value {
	names := []string{"", ".", "0", "00", "01", "1", "2", "a", "a.b", "b", "c", "\u00e9"}
	v := api.Value{Kind: kind}
	switch kind {
	case api.Int:
		v.N = int64(r.Intn(5) - 2)
	case api.String:
		v.Text = names[r.Intn(len(names))]
	case api.Object:
		for _, name := range names {
			if r.Intn(3) == 0 {
				v.Names = append(v.Names, name)
			}
		}
	}
	n := len(v.Names)
	if kind == api.Array {
		n = r.Intn(4)
	}
	for range n {
		kind := r.Intn(5)
		if levels > 2 && r.Intn(3) > 0 {
			kind = api.Array + r.Intn(2)
		}
		v.Items = append(v.Items, drawn(r, kind, levels-1))
	}
	return v
}

func drawnPath(r *rand.Rand) string {
	steps := []string{"0", "00", "01", "1", "2", "3", "a", "b", "c", "d", "A", "\u00e9"}
	var l []string
	for range 1 + r.Intn(api.MaxSteps) {
		l = append(l, steps[r.Intn(len(steps))])
	}
	return strings.Join(l, ".")
}

func TestPutAndGet(t *testing.T) {
	r := rand.New(rand.NewSource(1))
	put := 0
	for range 30000 {
		v := drawn(r, api.Object, 1+r.Intn(6))
		x := drawn(r, r.Intn(7), 1+r.Intn(4))
		if wantBack(t, v, drawnPath(r), x) {
			put++
		}
	}
	if put < 5000 {
		t.Error("too few were put:", put)
	}
}

// Each place of v that has a path is put to, and what is got at each is what stands there.
func TestPutAndGetAtEachPlace(t *testing.T) {
	r := rand.New(rand.NewSource(2))
	x := read(t, `"x"`)
	for range 500 {
		v := drawn(r, api.Object, 1+r.Intn(6))
		for place, item := range places(v) {
			p := strings.ReplaceAll(strings.TrimPrefix(place, between), between, ".")
			if _, err := path.Steps(p); err != api.OK || placeOf(p) != place {
				continue // a name with a point, the empty one, v itself, or too many steps
			}
			wantGet(t, v, p, printed(item))
			if !wantBack(t, v, p, x) {
				t.Errorf("%s: nothing can be put at %q", printed(v), p)
			}
			wantPut(t, v, p, item, printed(v))
		}
	}
}

// What isn't one of the places is nothing.
func TestGetAtNoPlace(t *testing.T) {
	r := rand.New(rand.NewSource(3))
	got := 0
	for range 20000 {
		v, p := drawn(r, api.Array+r.Intn(2), 1+r.Intn(6)), drawnPath(r)
		if want, ok := places(v)[placeOf(p)]; ok {
			wantGet(t, v, p, printed(want))
			got++
		} else {
			wantNothing(t, v, p)
		}
	}
	if got < 500 {
		t.Error("too few were got:", got)
	}
}

// Puts at places that are not in one another may come in any order.
func TestPutsInAnyOrder(t *testing.T) {
	v := read(t, `{"a":{"b":[7,8]},"c":{}}`)
	paths := []string{"a.b.0", "a.b.1", "a.c", "c.d", "c.a", "b"}
	want := `{"a":{"b":[0,1],"c":2},"b":5,"c":{"a":4,"d":3}}`
	for turn := range paths {
		w := v
		for i := range paths {
			i = (i + turn) % len(paths)
			w, _ = path.Put(w, paths[i], api.Value{Kind: api.Int, N: int64(i)})
		}
		if printed(w) != want {
			t.Errorf("from %d on: %s", turn, printed(w))
		}
	}
}
