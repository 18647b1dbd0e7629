package keys_test

import (
	"bytes"
	"cmp"
	"math/rand"
	"strings"
	"testing"

	"muniment/api"
	"muniment/json"
	"muniment/keys"
	"muniment/order"
)

// P4.3: keys are ordered as the values are, none is another one's beginning, and what is written is read.

func key(t *testing.T, v api.Value) []byte {
	t.Helper()
	b, err := keys.Key(v)
	if err != api.OK {
		t.Fatalf("Key(%s): error %d", printed(v), err)
	}
	return b
}

// wantOrdered holds two keys against each other, byte by byte.
func wantOrdered(t *testing.T, a, b api.Value) {
	t.Helper()
	c := order.Compare(a, b)
	ka, kb := key(t, a), key(t, b)
	if bytes.Compare(ka, kb) != c {
		t.Errorf("%s, %s: %d, but their keys are % x, % x", printed(a), printed(b), c, ka, kb)
	}
	if c != 0 && (bytes.HasPrefix(ka, kb) || bytes.HasPrefix(kb, ka)) {
		t.Errorf("%s, %s: of their keys one is the other's beginning: % x, % x", printed(a), printed(b), ka, kb)
	}
}

func TestKeysRise(t *testing.T) {
	l := rising(t)
	for i, a := range l {
		for k, b := range l {
			if order.Compare(a, b) != cmp.Compare(i, k) {
				t.Fatalf("%s, %s: %d, %d", printed(a), printed(b), i, k)
			}
			wantOrdered(t, a, b)
			if json.Depth(a) < api.MaxDepth && json.Depth(b) < api.MaxDepth {
				wantOrdered(t, array(a), array(b))
				wantOrdered(t, array(a, integer(1)), array(b, integer(0)))
				wantOrdered(t, named("a", a), named("a", b))
				wantOrdered(t, object("a,b", a, integer(1)), object("a,b", b, integer(0)))
			}
		}
	}
}

// Of names each is ordered as a text is, ahead of the Items.
func TestNamesRise(t *testing.T) {
	for _, a := range rising(t) {
		for _, b := range rising(t) {
			if a.Kind == api.String && b.Kind == api.String {
				wantOrdered(t, named(a.Text, api.Value{}), named(b.Text, text("x")))
				wantOrdered(t, named(a.Text, text("x")), named(b.Text, api.Value{}))
			}
		}
	}
}

func TestKeysOfManyAreOrdered(t *testing.T) {
	r := rand.New(rand.NewSource(1))
	alike := 0
	for range 50000 {
		a := drawn(r, 1+r.Intn(6))
		wantOrdered(t, a, near(r, a))
		wantOrdered(t, a, drawn(r, 1+r.Intn(6)))
		if b := drawn(r, 1+r.Intn(2)); order.Compare(a, b) == 0 {
			alike++
		}
	}
	if alike < 500 {
		t.Error("too few were alike:", alike)
	}
}

func TestKeysOfManyAreRead(t *testing.T) {
	r := rand.New(rand.NewSource(2))
	for range 50000 {
		v, w := drawn(r, 1+r.Intn(6)), drawn(r, 1+r.Intn(3))
		wantKey(t, v, keyOf(v))
		// One behind the other, each is read from where the one ahead ends.
		b := append(key(t, v), key(t, w)...)
		got, n, err := keys.Read(b)
		if err != api.OK || !json.Same(got, v) {
			t.Fatalf("Read(% x): %s, error %d", b, printed(got), err)
		}
		got, n, err = keys.Read(b[n:])
		if err != api.OK || !json.Same(got, w) || n != len(keyOf(w)) {
			t.Fatalf("Read(% x): %s, error %d", b, printed(got), err)
		}
	}
}

// A key that is far longer than MaxKey is read too.
func TestLongKeysAreRead(t *testing.T) {
	v := text(strings.Repeat("\x00", 60))
	for range 3 {
		v = wide(api.Object, 24, v)
		wantKey(t, v, keyOf(v))
		wantKey(t, array(v, v), "\x06"+keyOf(v)+keyOf(v)+"\x00")
	}
}

// comparedDown is how l and m stand to each other where those that fall are ordered the other way round.
func comparedDown(l, m []api.Value, down []bool) int {
	for i := range l {
		c := order.Compare(l[i], m[i])
		if i < len(down) && down[i] {
			c = -c
		}
		if c != 0 {
			return c
		}
	}
	return 0
}

func TestCompoundKeysAreOrdered(t *testing.T) {
	r := rand.New(rand.NewSource(3))
	held := 0
	for range 30000 {
		var l, m []api.Value
		for range 1 + r.Intn(4) {
			l = append(l, drawn(r, 1+r.Intn(3)))
			m = append(m, l[len(l)-1])
			if r.Intn(2) == 0 {
				m[len(m)-1] = near(r, m[len(m)-1])
			}
		}
		all := downs(len(l))
		down := all[r.Intn(len(all))]
		a, errA := keys.Compound(l, down)
		b, errB := keys.Compound(m, down)
		if errA != api.OK || errB != api.OK {
			continue
		}
		held++
		c := comparedDown(l, m, down)
		if bytes.Compare(a, b) != c || c != 0 && (bytes.HasPrefix(a, b) || bytes.HasPrefix(b, a)) {
			t.Errorf("%s against %s, %v: %d, but their keys are % x, % x", printedAll(l), printedAll(m), down, c, a, b)
		}
	}
	if held < 20000 {
		t.Error("too few were held against each other:", held)
	}
}
