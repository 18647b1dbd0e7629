package json_test

import (
	"strconv"
	"strings"
	"testing"

	"muniment/api"
	"muniment/json"
)

// P1.2: Read.

func TestRead(t *testing.T) {
	for s, want := range map[string]api.Value{
		"null":                                {},
		"false":                               {Kind: api.False},
		"true":                                {Kind: api.True},
		"0":                                   integer(0),
		"-0":                                  integer(0),
		"7":                                   integer(7),
		"-7":                                  integer(-7),
		"1234567890123456789":                 integer(1234567890123456789),
		"9223372036854775807":                 integer(1<<63 - 1),
		"9223372036854775806":                 integer(1<<63 - 2),
		"-9223372036854775808":                integer(-1 << 63),
		"-9223372036854775807":                integer(-1<<63 + 1),
		`""`:                                  text(""),
		`"abc"`:                               text("abc"),
		`"null"`:                              text("null"),
		`" a b "`:                             text(" a b "),
		"\"/\x7f'\"":                          text("/\x7f'"),
		"\"\u00e9\u2028\ufffd\U0010ffff\"":    text("\u00e9\u2028\ufffd\U0010ffff"),
		`[]`:                                  array(),
		`[1]`:                                 array(integer(1)),
		`[1,-2,[],{}]`:                        array(integer(1), integer(-2), array(), object("")),
		`[[1,2],[3]]`:                         array(array(integer(1), integer(2)), array(integer(3))),
		`{}`:                                  object(""),
		`{"a":1}`:                             object("a", integer(1)),
		`{"a":[],"b":{}}`:                     object("a b", array(), object("")),
		`{"a":{"a":1}}`:                       object("a", object("a", integer(1))),
		`[{"a":1},{"a":2}]`:                   array(object("a", integer(1)), object("a", integer(2))),
		`{ "b" : [1, -0], "a" : "\u0041\n" }`: object("a b", text("A\n"), array(integer(1), integer(0))),
	} {
		wantRead(t, s, want)
	}
}

// What Read answers is formed, and depends on nothing but the text.
func TestReadIsFormed(t *testing.T) {
	for name, v := range formedValues() {
		s, _ := json.Print(v)
		got, err := json.Read(s)
		if err != api.OK || !json.Formed(got) || !alike(got, v) {
			t.Errorf("%s: %q is read as %v, error %d", name, short(s), got, err)
		}
	}
}

func TestReadNoText(t *testing.T) {
	for _, s := range []string{
		"", " ", "\n\t\r ", "n", "nul", "nulll", "Null", "NULL", "tru", "True", "fals", "falsee", "truefalse", "undefined", "NaN", "Infinity", "-Infinity", "x",
		"[", "]", "{", "}", ",", ":", `"`, `\`, "[1", "[1,", "[1,]", "[,]", "[,1]", "[1,,2]", "[1 2]", "[1}", "[}", "{]", "[[]", "[]]", "[[],]", "[1];", "[1:2]", `["a":1]`,
		`{"a"}`, `{"a":}`, `{"a":1,}`, `{,}`, `{,"a":1}`, `{"a":1,,"b":2}`, `{"a":1 "b":2}`, `{"a" 1}`, `{"a"::1}`, `{"a",1}`, `{"a":1]`, `{"a":1`, `{"a":`, `{"a"`, `{"a`, `{"`, `{"a":1}}`,
		`{1:2}`, `{a:1}`, `{'a':1}`, `{null:1}`, `{[]:1}`, `{"a":1:2}`,
		"1 2", "1,2", "1,", ",1", `"a" "b"`, `"a""b"`, "null null", "{} {}", "[] []", "[] 1",
		"'a'", "`a`", "// x\n1", "/**/1", "1#", "(1)", "\ufeff1", "1\x00", "\x001",
	} {
		wantReadError(t, s, api.ErrForm)
	}
}

// A text of an Array or Object that is cut short anywhere, or has something behind it, is none.
func TestReadCutAndMore(t *testing.T) {
	for _, s := range []string{
		`[null,false,true,-12,"a\n\u0041\ud83d\ude00\"",[1,[2]],{"a":{"b":[3]}}]`,
		`{"a":[1,2,{"c":"x"}],"b\\":"\/","":{}}`,
		`["` + "\u20ac\U0001f600" + `"]`,
		`"` + "\u20ac\\ud83d\\ude00\U0001f600" + `"`,
	} {
		if _, err := json.Read(s); err != api.OK {
			t.Errorf("Read(%q): error %d", s, err)
		}
		for i := range len(s) {
			wantReadError(t, s[:i], api.ErrForm)
			wantReadError(t, s[i+1:], api.ErrForm)
		}
		for b := range 256 {
			if strings.IndexByte("\t\n\r ", byte(b)) < 0 {
				wantReadError(t, s+string([]byte{byte(b)}), api.ErrForm)
				wantReadError(t, string([]byte{byte(b)})+s, api.ErrForm)
			}
		}
	}
}

func TestReadBlanks(t *testing.T) {
	tokens := []string{"[", "{", `"b"`, ":", "[", "1", ",", "null", "]", ",", `"a"`, ":", "{", "}", "}", ",", "[", "]", ",", `"x y"`, "]"}
	want := array(object("a b", object(""), array(integer(1), api.Value{})), array(), text("x y"))
	all := strings.Join(tokens, "")
	wantRead(t, all, want)
	for _, blank := range []string{" ", "\t", "\n", "\r", "\r\n", " \t\n\r \t\n\r "} {
		wantRead(t, blank+strings.Join(tokens, blank)+blank, want)
		for i := range len(tokens) + 1 {
			wantRead(t, strings.Join(tokens[:i], "")+blank+strings.Join(tokens[i:], ""), want)
		}
		wantRead(t, blank+"7", integer(7))
		wantRead(t, "7"+blank, integer(7))
		wantRead(t, blank+"null"+blank, api.Value{})
		wantRead(t, blank+`"x"`+blank, text("x"))
	}
	for _, other := range []string{"\x00", "\x08", "\x0b", "\x0c", "\x1f", "\x7f", "\x80", "\xa0", "\u0085", "\u00a0", "\u2028", "\u3000", "\ufeff", "_"} {
		for i := range len(tokens) + 1 {
			wantReadError(t, strings.Join(tokens[:i], "")+other+strings.Join(tokens[i:], ""), api.ErrForm)
		}
	}
	for _, s := range []string{"n ull", "tr ue", "fals\ne", "- 1", "1 2", "-\t1", `"\ n"`, `"\u 041"`, `"\u00 41"`, `"\ud83d \ude00"`} {
		wantReadError(t, s, api.ErrForm)
	}
}

func TestReadNumbers(t *testing.T) {
	for _, n := range []int64{1, 9, 10, 99, 100, 1 << 31, 1<<32 - 1, 1 << 62, 999999999999999999, 1000000000000000000} {
		wantRead(t, strconv.FormatInt(n, 10), integer(n))
		wantRead(t, strconv.FormatInt(-n, 10), integer(-n))
	}
	bad := []string{
		"-", "--1", "+1", "+0", "-+1", "00", "01", "-00", "-01", "007", "0 0", "1-", "1-1", "0x1", "0x", "1_0", "1.0", "1.5", "1.", ".5", "0.0", "-0.0", "-.5", "1e5", "1E5", "0e0", "1e", "1a", "-a", "0b1", "0o7",
		"9223372036854775808", "-9223372036854775809", "9223372036854775810", "10000000000000000000", "18446744073709551615", "18446744073709551616", "-18446744073709551616", "99999999999999999999999999",
		strings.Repeat("1", 10000), "-" + strings.Repeat("9", 10000), "\u0661", "\uff11",
	}
	for _, s := range bad {
		wantReadError(t, s, api.ErrForm)
		wantReadError(t, "["+s+"]", api.ErrForm)
		wantReadError(t, `{"a":`+s+`}`, api.ErrForm)
	}
}

func TestReadEscapes(t *testing.T) {
	meant := map[byte]string{'"': `"`, '\\': `\`, '/': "/", 'b': "\x08", 'f': "\x0c", 'n': "\n", 'r': "\r", 't': "\t"}
	for b := range 256 {
		s := `"x\` + string([]byte{byte(b)}) + `y"`
		if want, ok := meant[byte(b)]; ok {
			wantRead(t, s, text("x"+want+"y"))
			wantRead(t, "{"+s+":1}", api.Value{Kind: api.Object, Names: []string{"x" + want + "y"}, Items: []api.Value{integer(1)}})
		} else {
			wantReadError(t, s, api.ErrForm)
			wantReadError(t, "{"+s+":1}", api.ErrForm)
		}
	}
}

// hex is n in at least four digits, with letters in lower or upper case.
func hex(n int, upper bool) string {
	s := strconv.FormatInt(int64(n)+0x10000, 16)[1:]
	if upper {
		return strings.ToUpper(s)
	}
	return s
}

func TestReadCodePoints(t *testing.T) {
	for n := range 0x10000 {
		for _, upper := range []bool{false, true} {
			s := `"\u` + hex(n, upper) + `"`
			if 0xd800 <= n && n <= 0xdfff {
				wantReadError(t, s, api.ErrForm)
			} else {
				wantRead(t, s, text(string(rune(n))))
			}
		}
	}
	wantRead(t, `"\uAbCd\u00e9x\u0000"`, text("\uabcd\u00e9x\x00"))
	wantRead(t, `"\u00411"`, text("A1"))
	wantRead(t, `{"\u0062":1,"\u0061":2}`, object("a b", integer(2), integer(1)))
	for _, s := range []string{`"\u"`, `"\u1"`, `"\u12"`, `"\u123"`, `"\u123`, `"\u1234`, `"\u`, `"\u123g"`, `"\u12 4"`, `"\u+123"`, `"\u-123"`, `"\u1_23"`, `"\u0x41"`, `"\U0041"`, `"\u{41}"`, `"\x41"`, `"\041"`, `"\u004/"`, `"\u004:"`, `"\u004@"`, `"\u004G"`, "\"\\u004`\"", `"\u004"41"`} {
		wantReadError(t, s, api.ErrForm)
	}
}

func TestReadPairs(t *testing.T) {
	for high := 0xd800; high <= 0xdbff; high += 3 {
		for low := 0xdc00; low <= 0xdfff; low += 93 {
			r := rune(0x10000 + (high-0xd800)*0x400 + low - 0xdc00)
			wantRead(t, `"\u`+hex(high, low%2 == 0)+`\u`+hex(low, high%2 == 0)+`"`, text(string(r)))
		}
	}
	wantRead(t, `"\ud800\udc00\ud800\udfff\udbff\udc00\udbff\udfff"`, text("\U00010000\U000103ff\U0010fc00\U0010ffff"))
	wantRead(t, `"a\ud83d\ude00b"`, text("a\U0001f600b"))
	wantRead(t, `{"\ud83d\ude00":1}`, object("\U0001f600", integer(1)))
	for _, s := range []string{
		`"\ud800"`, `"\ud83d"`, `"\udbff"`, `"\udc00"`, `"\udfff"`, `"a\ud800b"`, `"a\udc00b"`, `"\ud800`, `"\ud800\`, `"\ud800\u`, `"\ud800\udc0`, `"\ud800\"`,
		`"\ud800\u0041"`, `"\ud800\ud800"`, `"\ud800\udbff"`, `"\ud800\ue000"`, `"\ud800\ud800\udc00"`, `"\udc00\ud800"`, `"\udc00\udc00"`, `"\udfff\udc00"`, `"\udfff\udfff"`, `"\udbff\ue000"`, `"\ud800\udc00\udc00"`, `"\ud800\udc00\ud800"`,
		`"\ud800x\udc00"`, `"\ud800 \udc00"`, `"\ud800\n\udc00"`, `"\ud800\\udc00"`, `"\ud800udc00"`, `"\ud800\Udc00"`, `"\ud800\udc0g"`, `"\ud800\udc0"`, `"\ud800` + "\u00e9" + `"`, `"\ud800` + "\U00010000" + `"`,
		"\"\\ud800\xed\xb0\x80\"", "\"\xed\xa0\x80\\udc00\"", `{"\ud800":1}`, `{"\udc00":1}`,
	} {
		wantReadError(t, s, api.ErrForm)
	}
}

func TestReadBytesInStrings(t *testing.T) {
	for b := range 256 {
		s := `x` + string([]byte{byte(b)}) + `y`
		switch {
		case b < 32 || b >= 128:
			wantReadError(t, `"`+s+`"`, api.ErrForm)
			wantReadError(t, `{"`+s+`":1}`, api.ErrForm)
		case b != '"' && b != '\\':
			wantRead(t, `"`+s+`"`, text(s))
			wantRead(t, `{"`+s+`":1}`, api.Value{Kind: api.Object, Names: []string{s}, Items: []api.Value{integer(1)}})
		}
	}
	for _, s := range []string{"\xc3", "\xc3\xc3", "\xe2\x82", "\xe2\x82x", "\xed\xa0\x80", "\xed\xb0\x80", "\xed\xa0\xbd\xed\xb8\x80", "\xc0\x80", "\xc1\xbf", "\xe0\x80\x80", "\xf0\x80\x80\x80", "\xf4\x90\x80\x80", "\xf8\x88\x80\x80\x80", "\xfe", "\xff", "\xef\xbf", "\xf0\x9f\x98", "\u20ac\x80"} {
		wantReadError(t, `"`+s+`"`, api.ErrForm)
		wantReadError(t, `{"`+s+`":1}`, api.ErrForm)
		wantReadError(t, s, api.ErrForm)
		wantReadError(t, `["`+strings.Repeat("x", 61)+`","`+s+`"]`, api.ErrForm)
	}
	for _, s := range []string{"\u0080", "\u07ff", "\u0800", "\ud7ff", "\ue000", "\ufffd", "\uffff", "\U00010000", "\U0010ffff"} {
		wantRead(t, `"`+s+`"`, text(s))
	}
}

func TestReadOrderOfMembers(t *testing.T) {
	want := object("a aa b \u00e9 \uffff \U00010000", integer(1), integer(2), integer(3), integer(4), integer(5), integer(6))
	for _, order := range [][]int{{0, 1, 2, 3, 4, 5}, {5, 4, 3, 2, 1, 0}, {2, 0, 5, 1, 4, 3}, {1, 0, 3, 2, 5, 4}} {
		var l []string
		for _, i := range order {
			l = append(l, `"`+want.Names[i]+`":`+strconv.Itoa(i+1))
		}
		wantRead(t, "{"+strings.Join(l, ",")+"}", want)
	}
	wantRead(t, `{"b":{"d":1,"c":2},"":[{"f":3,"e":4}],"B":5}`, api.Value{Kind: api.Object, Names: []string{"", "B", "b"}, Items: []api.Value{array(object("e f", integer(4), integer(3))), integer(5), object("c d", integer(2), integer(1))}})
}

func TestReadNamesTwice(t *testing.T) {
	for _, s := range []string{
		`{"a":1,"a":2}`, `{"a":1,"a":1}`, `{"":1,"":2}`, `{"a":1,"b":2,"a":3}`, `{"b":1,"a":2,"c":3,"a":4}`, `{"a":1,"\u0061":2}`, `{"\/":1,"/":2}`, `{"\u00e9":1,"` + "\u00e9" + `":2}`, `{"\ud83d\ude00":1,"` + "\U0001f600" + `":2}`,
		`[{"a":1,"a":2}]`, `{"x":{"a":1,"a":2}}`, `[1,[{"z":{"a":1,"b":2,"a":null}}]]`,
	} {
		wantReadError(t, s, api.ErrForm)
	}
	wantRead(t, `{"a":1,"A":2}`, object("A a", integer(2), integer(1)))
	wantRead(t, `{"a":{"a":1},"b":{"a":1}}`, object("a b", object("a", integer(1)), object("a", integer(1))))
}

// members is the text of an Object of n members, whose names rise.
func members(n int) string {
	var l []string
	for _, name := range rising(n) {
		l = append(l, `"`+name+`":null`)
	}
	return "{" + strings.Join(l, ",") + "}"
}

func items(n int) string {
	return "[" + strings.TrimSuffix(strings.Repeat("null,", n), ",") + "]"
}

func TestReadLimits(t *testing.T) {
	x := func(n int) string { return strings.Repeat("x", n) }
	quoted := func(s string) string { return `"` + s + `"` }
	wantRead(t, quoted(x(59)), text(x(59)))
	wantRead(t, quoted(x(60)), text(x(60)))
	wantReadError(t, quoted(x(61)), api.ErrLong)
	wantReadError(t, quoted(x(19000)), api.ErrLong)
	wantRead(t, quoted(strings.Repeat(`\u0041`, 60)), text(strings.Repeat("A", 60)))
	wantReadError(t, quoted(strings.Repeat(`\u0041`, 61)), api.ErrLong)
	wantRead(t, quoted(strings.Repeat(`\ud83d\ude00`, 15)), text(strings.Repeat("\U0001f600", 15)))
	wantReadError(t, quoted(strings.Repeat(`\ud83d\ude00`, 15)+"x"), api.ErrLong)
	wantRead(t, quoted(strings.Repeat("\u20ac", 20)), text(strings.Repeat("\u20ac", 20)))
	wantReadError(t, quoted(strings.Repeat("\u20ac", 21)), api.ErrLong)
	wantRead(t, `{"`+x(60)+`":1}`, object(x(60), integer(1)))
	wantReadError(t, `{"`+x(61)+`":1}`, api.ErrLong)
	wantReadError(t, `{"a":1,"`+x(61)+`":1}`, api.ErrLong)
	wantReadError(t, `{"a":["`+x(61)+`"]}`, api.ErrLong)

	wantRead(t, items(23), wide(api.Array, 23))
	wantRead(t, items(24), wide(api.Array, 24))
	wantReadError(t, items(25), api.ErrLong)
	wantReadError(t, items(3000), api.ErrLong)
	wantReadError(t, "["+items(25)+"]", api.ErrLong)
	wantRead(t, members(24), wide(api.Object, 24))
	wantReadError(t, members(25), api.ErrLong)
	wantReadError(t, members(600), api.ErrLong)
	wantReadError(t, `{"a":`+members(25)+`}`, api.ErrLong)

	in := func(n int, s string) string { return strings.Repeat("[", n) + s + strings.Repeat("]", n) }
	wantRead(t, in(5, "1"), nested(5, integer(1)))
	wantReadError(t, in(6, "1"), api.ErrLong)
	wantRead(t, in(6, ""), nested(5, array()))
	wantReadError(t, in(7, ""), api.ErrLong)
	wantReadError(t, in(900, ""), api.ErrLong)
	under := func(n int, s string) string { return strings.Repeat(`{"a":`, n) + s + strings.Repeat("}", n) }
	wantRead(t, under(5, "1"), nestedObjects(5, integer(1)))
	wantReadError(t, under(6, "1"), api.ErrLong)
	wantReadError(t, "[1,"+in(6, "")+",2]", api.ErrLong)
}

func TestReadMaxText(t *testing.T) {
	blanks := func(n int) string { return strings.Repeat(" ", n) }
	wantRead(t, "1"+blanks(api.MaxText-1), integer(1))
	wantRead(t, blanks(api.MaxText-4)+"null", api.Value{})
	wantReadError(t, "1"+blanks(api.MaxText), api.ErrLong)
	wantReadError(t, blanks(api.MaxText-3)+"null", api.ErrLong)
	// What is too long is asked ahead of what is no text.
	for _, s := range []string{"x", "[", " ", "\xff", "{"} {
		wantReadError(t, strings.Repeat(s, api.MaxText+1), api.ErrLong)
		wantReadError(t, strings.Repeat(s, 3*api.MaxText), api.ErrLong)
	}
	for _, s := range []string{"x", " ", "\xff", "0", "9"} {
		wantReadError(t, strings.Repeat(s, api.MaxText), api.ErrForm)
	}
	wantReadError(t, `"`+strings.Repeat("x", api.MaxText-2)+`"`, api.ErrLong)
	wantReadError(t, `"`+strings.Repeat("x", api.MaxText-1), api.ErrForm)
}

// What is no text is ErrForm, whatever limits are passed ahead of the fault, or behind it.
func TestReadNoTextBeyondLimits(t *testing.T) {
	long := `"` + strings.Repeat("x", 61) + `"`
	for _, s := range []string{
		strings.Repeat("[", 7), strings.Repeat("[", 900), strings.Repeat("[", 7) + strings.Repeat("]", 6), strings.Repeat("[", 7) + strings.Repeat("]", 8), strings.Repeat("[", 7) + "01" + strings.Repeat("]", 7), strings.Repeat("[", 7) + "9223372036854775808" + strings.Repeat("]", 7),
		long + "x", "[" + long + "," + "]", "[" + long + ",1.5]", "[1.5," + long + "]", `[` + long + `,"\ud800"]`, `[` + long + `,{"a":1,"a":2}]`, `[{"a":1,"a":2},` + long + `]`,
		`{` + long + `:1,` + long + `:2}`, `{` + long + `:1,"a":2,` + long + `:2}`,
		items(25) + "]", items(25)[:len(items(25))-1], "[" + items(25) + ",01]", "[" + items(25) + "," + `"\x"` + "]",
		strings.TrimSuffix(members(25), "}") + `,"aa":1}`, strings.TrimSuffix(members(25), "}"), strings.TrimSuffix(members(600), "}") + `,"am":1}`,
		`"` + strings.Repeat("x", 61) + "\xff\"", `"` + strings.Repeat("x", 61) + "\n\"", `"` + strings.Repeat("x", 61), `"` + strings.Repeat("x", 61) + `\u12"`,
	} {
		wantReadError(t, s, api.ErrForm)
	}
}

// R5, R7: two answers share nothing, nor do two lists of one answer, their spare room included.
func TestReadIsNewMemory(t *testing.T) {
	const s = `{"a":[1,2,3],"b":[4,5,6],"c":{"d":7,"e":8,"f":9}}`
	first, _ := json.Read(s)
	second, _ := json.Read(s)
	want := object("a b c", array(integer(1), integer(2), integer(3)), array(integer(4), integer(5), integer(6)), object("d e f", integer(7), integer(8), integer(9)))
	for _, v := range []api.Value{first.Items[0], first.Items[1], first.Items[2]} {
		_ = append(v.Items, text("more"), text("more"))
		_ = append(v.Names, "more", "more")
	}
	_ = append(first.Items, text("more"), text("more"))
	if !alike(first, want) {
		t.Error("what is appended to one list stands in another", first)
	}
	first.Names[0], first.Items[2].Names[0] = "x", "x"
	first.Items[0].Items[0], first.Items[2].Items[0] = text("x"), text("x")
	if !alike(second, want) {
		t.Error("two answers share memory", second)
	}
}
