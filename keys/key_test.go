package keys_test

import (
	"strings"
	"testing"

	"muniment/api"
	"muniment/json"
	"muniment/keys"
)

// P4.1: Key, and Read of what it answers.

// Bytes that are written out: the chapter's examples, and the edges of each Kind.
func TestKeyBytes(t *testing.T) {
	z60 := strings.Repeat("\x00", 60)
	for _, c := range []struct {
		v    api.Value
		want string
	}{
		{integer(5), "\x04\x80\x00\x00\x00\x00\x00\x00\x05"},
		{text("a"), "\x05a\x00\x00"},
		{array(api.Value{}), "\x06\x01\x00"},
		{api.Value{}, "\x01"},
		{api.Value{Kind: api.False}, "\x02"},
		{api.Value{Kind: api.True}, "\x03"},
		{integer(-1 << 63), "\x04\x00\x00\x00\x00\x00\x00\x00\x00"},
		{integer(-1<<63 + 1), "\x04\x00\x00\x00\x00\x00\x00\x00\x01"},
		{integer(-256), "\x04\x7f\xff\xff\xff\xff\xff\xff\x00"},
		{integer(-1), "\x04\x7f\xff\xff\xff\xff\xff\xff\xff"},
		{integer(0), "\x04\x80\x00\x00\x00\x00\x00\x00\x00"},
		{integer(1), "\x04\x80\x00\x00\x00\x00\x00\x00\x01"},
		{integer(256), "\x04\x80\x00\x00\x00\x00\x00\x01\x00"},
		{integer(0x0102030405060708), "\x04\x81\x02\x03\x04\x05\x06\x07\x08"},
		{integer(1<<63 - 2), "\x04\xff\xff\xff\xff\xff\xff\xff\xfe"},
		{integer(1<<63 - 1), "\x04\xff\xff\xff\xff\xff\xff\xff\xff"},
		{text(""), "\x05\x00\x00"},
		{text("\x00"), "\x05\x00\xff\x00\x00"},
		{text("\x00\x00"), "\x05\x00\xff\x00\xff\x00\x00"},
		{text("a\x00b"), "\x05a\x00\xffb\x00\x00"},
		{text("\x00\x01"), "\x05\x00\xff\x01\x00\x00"},
		{text("\u00ff"), "\x05\xc3\xbf\x00\x00"},
		{text("\U0010ffff"), "\x05\xf4\x8f\xbf\xbf\x00\x00"},
		{text(strings.Repeat("x", 60)), "\x05" + strings.Repeat("x", 60) + "\x00\x00"},
		{text(z60), "\x05" + strings.Repeat("\x00\xff", 60) + "\x00\x00"},
		{array(), "\x06\x00"},
		{array(api.Value{}, api.Value{Kind: api.True}), "\x06\x01\x03\x00"},
		{array(text(""), array(), api.Value{Kind: api.False}), "\x06\x05\x00\x00\x06\x00\x02\x00"},
		{nested(5, api.Value{}), "\x06\x06\x06\x06\x06\x01\x00\x00\x00\x00\x00"},
		{nested(5, array()), "\x06\x06\x06\x06\x06\x06\x00\x00\x00\x00\x00\x00"},
		{wide(api.Array, 24, api.Value{}), "\x06" + strings.Repeat("\x01", 24) + "\x00"},
		{api.Value{Kind: api.Object}, "\x07\x00"},
		{named("", api.Value{}), "\x07\x01\x00\x00\x01\x00"},
		{named("b", api.Value{Kind: api.True}), "\x07\x01b\x00\x00\x03\x00"},
		{named("\x00", api.Value{}), "\x07\x01\x00\xff\x00\x00\x01\x00"},
		{object("a,a\x00,b", api.Value{}, text("a"), array()), "\x07\x01a\x00\x00\x01\x01a\x00\xff\x00\x00\x05a\x00\x00\x01b\x00\x00\x06\x00\x00"},
		{named(z60, api.Value{}), "\x07\x01" + strings.Repeat("\x00\xff", 60) + "\x00\x00\x01\x00"},
		{nestedObjects(2, named("b", api.Value{})), "\x07\x01a\x00\x00\x07\x01a\x00\x00\x07\x01b\x00\x00\x01\x00\x00\x00"},
		{nestedObjects(5, api.Value{Kind: api.Object}), strings.Repeat("\x07\x01a\x00\x00", 5) + "\x07\x00" + strings.Repeat("\x00", 5)},
	} {
		wantKey(t, c.v, c.want)
		if keyOf(c.v) != c.want {
			t.Errorf("the tests expect % x of %s, which isn't what is written out", keyOf(c.v), printed(c.v))
		}
	}
}

func TestKeyOfAllKinds(t *testing.T) {
	for _, v := range rising(t) {
		wantKey(t, v, keyOf(v))
		if json.Depth(v) < api.MaxDepth {
			wantKey(t, array(v, v), "\x06"+keyOf(v)+keyOf(v)+"\x00")
			wantKey(t, object("a,b", v, v), "\x07\x01a\x00\x00"+keyOf(v)+"\x01b\x00\x00"+keyOf(v)+"\x00")
		}
	}
}

// All bytes of N, one at a time, above 0 and below.
func TestKeyOfInts(t *testing.T) {
	for shift := range 64 {
		for _, n := range []int64{1<<shift - 1, 1 << shift, 1<<shift + 1, -1 << shift, -1<<shift - 1, 0x5a << shift} {
			wantKey(t, integer(n), keyOf(integer(n)))
		}
	}
}

func TestKeyOfTexts(t *testing.T) {
	for r := rune(0); r <= 0x10ffff; r += 1 + r/50 {
		if r < 0xd800 || r > 0xdfff {
			for _, s := range []string{string(r), "\x00" + string(r), string(r) + "\x00", "a" + string(r) + "b"} {
				wantKey(t, text(s), "\x05"+textOf(s))
				wantKey(t, named(s, api.Value{}), "\x07\x01"+textOf(s)+"\x01\x00")
			}
		}
	}
	for n := range api.MaxString + 1 {
		for _, c := range []string{"\x00", "\x01", "x"} {
			s := strings.Repeat(c, n)
			wantKey(t, text(s), "\x05"+textOf(s))
			wantKey(t, named(s, api.Value{}), "\x07\x01"+textOf(s)+"\x01\x00")
		}
	}
}

// Members up to their limit, at each depth; a key may be far longer than MaxKey.
func TestKeyOfWideAndDeep(t *testing.T) {
	for n := range api.MaxMembers + 1 {
		for _, kind := range []int{api.Array, api.Object} {
			v := wide(kind, n, wide(kind, n, text(strings.Repeat("\x00", n))))
			wantKey(t, v, keyOf(v))
		}
	}
	for depth := range api.MaxDepth {
		for _, inner := range []api.Value{{}, integer(7), text("a")} {
			v := nested(depth, inner)
			wantKey(t, v, keyOf(v))
			v = nestedObjects(depth, inner)
			wantKey(t, v, keyOf(v))
			v = nested(depth/2, nestedObjects(depth-depth/2, inner))
			wantKey(t, v, keyOf(v))
		}
	}
}

// A list of none may be nil or empty, and means the same.
func TestKeyOfListsOfNone(t *testing.T) {
	for s, want := range map[string]string{"null": "\x01", "true": "\x03", "-1": "\x04\x7f\xff\xff\xff\xff\xff\xff\xff", `"a"`: "\x05a\x00\x00", "[]": "\x06\x00", "{}": "\x07\x00"} {
		v := read(t, s)
		for _, v.Names = range [][]string{nil, {}, make([]string, 0, 3)} {
			for _, v.Items = range [][]api.Value{nil, {}, make([]api.Value, 0, 3)} {
				wantKey(t, v, want)
			}
		}
	}
}

func TestKeyOfUnformed(t *testing.T) {
	for what, u := range unformedValues() {
		for _, v := range []api.Value{u, array(u), array(api.Value{}, u, api.Value{}), object("a,b", integer(1), u), nested(3, named("a", u))} {
			if json.Formed(v) {
				t.Fatal(what)
			}
			if b, err := keys.Key(v); err != api.ErrForm || len(b) != 0 {
				t.Errorf("Key(%s): % x, error %d, want error %d and nothing beside it", what, b, err, api.ErrForm)
			}
		}
	}
}
