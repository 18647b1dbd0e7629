package json_test

import (
	"strings"
	"testing"
	"unicode/utf8"

	"muniment/api"
	"muniment/json"
)

// P1.1: Print.

func TestPrint(t *testing.T) {
	for _, c := range []struct {
		v    api.Value
		want string
	}{
		{api.Value{}, "null"},
		{api.Value{Kind: api.False}, "false"},
		{api.Value{Kind: api.True}, "true"},
		{integer(0), "0"},
		{integer(7), "7"},
		{integer(-7), "-7"},
		{integer(10), "10"},
		{integer(-1 << 63), "-9223372036854775808"},
		{integer(1<<63 - 1), "9223372036854775807"},
		{text(""), `""`},
		{text("abc"), `"abc"`},
		{text(`a"b\c`), `"a\"b\\c"`},
		{text("/ <>&'"), `"/ <>&'"`},
		{text("\x7f\u0080\u00e9\u2028\u2029\ufeff\ufffd\U0001f600"), "\"\x7f\u0080\u00e9\u2028\u2029\ufeff\ufffd\U0001f600\""},
		{array(), "[]"},
		{api.Value{Kind: api.Array, Items: []api.Value{}}, "[]"},
		{array(integer(1)), "[1]"},
		{array(integer(1), integer(-2), array()), "[1,-2,[]]"},
		{object(""), "{}"},
		{api.Value{Kind: api.Object, Names: []string{}, Items: []api.Value{}}, "{}"},
		{object("a", integer(1)), `{"a":1}`},
		{object("a b c", api.Value{}, text("x"), object("")), `{"a":null,"b":"x","c":{}}`},
		{api.Value{Kind: api.Object, Names: []string{"", "\n\x01\"", "\u20ac"}, Items: make([]api.Value, 3)}, "{\"\":null,\"\\n\\u0001\\\"\":null,\"\u20ac\":null}"},
		{nested(5, integer(1)), "[[[[[1]]]]]"},
		{nestedObjects(5, integer(1)), `{"a":{"a":{"a":{"a":{"a":1}}}}}`},
		{wide(api.Array, 24), "[" + strings.Repeat("null,", 23) + "null]"},
		{array(array(integer(1), integer(2)), object("a b", integer(3), integer(4)), integer(5)), `[[1,2],{"a":3,"b":4},5]`},
	} {
		wantPrint(t, c.v, c.want)
	}
}

// printedByte is what a byte below 128 becomes in a string.
func printedByte(b byte) string {
	switch b {
	case '"':
		return `\"`
	case '\\':
		return `\\`
	case 8:
		return `\b`
	case 9:
		return `\t`
	case 10:
		return `\n`
	case 12:
		return `\f`
	case 13:
		return `\r`
	}
	if b < 32 {
		return `\u00` + string([]byte{'0' + b/16, "0123456789abcdef"[b%16]})
	}
	return string(rune(b))
}

func TestPrintEachByte(t *testing.T) {
	for b := byte(0); b < 128; b++ {
		s := string(rune(b))
		want := `"` + printedByte(b) + `"`
		wantPrint(t, text(s), want)
		wantPrint(t, text("x"+s+"y"), `"x`+printedByte(b)+`y"`)
		wantPrint(t, api.Value{Kind: api.Object, Names: []string{s}, Items: make([]api.Value, 1)}, "{"+want+":null}")
	}
}

func TestPrintEachRune(t *testing.T) {
	for r := rune(128); r <= utf8.MaxRune; r += 7 {
		if utf8.ValidRune(r) {
			wantPrint(t, text(string(r)), `"`+string(r)+`"`)
		}
	}
}

func TestPrintUnformed(t *testing.T) {
	for name, v := range unformedValues() {
		if s, err := json.Print(v); s != "" || err != api.ErrForm {
			t.Errorf("%s: %q, error %d, want error form and nothing beside it", name, short(s), err)
		}
	}
}

func TestPrintFormed(t *testing.T) {
	for name, v := range formedValues() {
		if s, err := json.Print(v); s == "" || err != api.OK {
			t.Errorf("%s: %q, error %d", name, short(s), err)
		}
	}
}

// What is printed has no bound of its own: MaxText is the reader's.
func TestPrintLong(t *testing.T) {
	row := api.Value{Kind: api.Array}
	for range api.MaxMembers {
		row.Items = append(row.Items, text(strings.Repeat("\x01", api.MaxString)))
	}
	v := api.Value{Kind: api.Array}
	for range api.MaxMembers {
		v.Items = append(v.Items, row)
	}
	one := `"` + strings.Repeat(`\u0001`, api.MaxString) + `"`
	line := "[" + strings.Repeat(one+",", api.MaxMembers-1) + one + "]"
	wantPrint(t, v, "["+strings.Repeat(line+",", api.MaxMembers-1)+line+"]")
}
