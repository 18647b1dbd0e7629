package json

import (
	"slices"
	"strconv"
	"strings"
	"unicode/utf8"

	"muniment/api"
)

// A member keeps a name by its item while they are brought in order.
type member struct {
	name string
	item api.Value
}

// Read answers the value whose text s is.
func Read(s string) (api.Value, api.Errno) {
	if len(s) > api.MaxText {
		return api.Value{}, api.ErrLong
	}
	at := 0
	v, ok := readValue(s, &at)
	if !ok || at < len(s) {
		return api.Value{}, api.ErrForm
	}
	// What the reader makes keeps to all rules but the limits.
	if !Formed(v) {
		return api.Value{}, api.ErrLong
	}
	return v, api.OK
}

// readValue skips the blanks around the value too, so that no caller has to.
func readValue(s string, at *int) (api.Value, bool) {
	skipBlanks(s, at)
	v, ok := readBare(s, at)
	skipBlanks(s, at)
	return v, ok
}

func readBare(s string, at *int) (api.Value, bool) {
	switch {
	case take(s, at, "null"):
		return api.Value{Kind: api.Null}, true
	case take(s, at, "false"):
		return api.Value{Kind: api.False}, true
	case take(s, at, "true"):
		return api.Value{Kind: api.True}, true
	case take(s, at, `"`):
		text, ok := readText(s, at)
		return api.Value{Kind: api.String, Text: text}, ok
	case take(s, at, "["):
		return readArray(s, at)
	case take(s, at, "{"):
		return readObject(s, at)
	}
	return readNumber(s, at)
}

func take(s string, at *int, word string) bool {
	if !strings.HasPrefix(s[*at:], word) {
		return false
	}
	*at += len(word)
	return true
}

func skipBlanks(s string, at *int) {
	for *at < len(s) && strings.IndexByte("\t\n\r ", s[*at]) >= 0 {
		*at++
	}
}

// readArray reads what stands behind the open bracket.
func readArray(s string, at *int) (api.Value, bool) {
	v := api.Value{Kind: api.Array}
	skipBlanks(s, at)
	if take(s, at, "]") {
		return v, true
	}
	for {
		item, ok := readValue(s, at)
		if !ok {
			return api.Value{}, false
		}
		v.Items = append(v.Items, item)
		if !take(s, at, ",") {
			return v, take(s, at, "]")
		}
	}
}

// readObject reads what stands behind the open bracket.
func readObject(s string, at *int) (api.Value, bool) {
	skipBlanks(s, at)
	if take(s, at, "}") {
		return api.Value{Kind: api.Object}, true
	}
	var l []member
	for {
		m, ok := readMember(s, at)
		if !ok {
			return api.Value{}, false
		}
		l = append(l, m)
		if !take(s, at, ",") {
			break
		}
	}
	if !take(s, at, "}") {
		return api.Value{}, false
	}
	return objectOf(l)
}

func readMember(s string, at *int) (member, bool) {
	skipBlanks(s, at)
	if !take(s, at, `"`) {
		return member{}, false
	}
	name, ok := readText(s, at)
	if !ok {
		return member{}, false
	}
	skipBlanks(s, at)
	if !take(s, at, ":") {
		return member{}, false
	}
	item, ok := readValue(s, at)
	return member{name, item}, ok
}

// objectOf sorts the members, so that a name that stands twice has itself beside it.
func objectOf(l []member) (api.Value, bool) {
	slices.SortFunc(l, func(a, b member) int { return strings.Compare(a.name, b.name) })
	v := api.Value{Kind: api.Object}
	for i, m := range l {
		if i > 0 && l[i-1].name == m.name {
			return api.Value{}, false
		}
		v.Names = append(v.Names, m.name)
		v.Items = append(v.Items, m.item)
	}
	return v, true
}

// readNumber leaves a digit behind a leading 0 where it stands: there it can't follow a value.
func readNumber(s string, at *int) (api.Value, bool) {
	from := *at
	take(s, at, "-")
	if !take(s, at, "0") {
		for *at < len(s) && '0' <= s[*at] && s[*at] <= '9' {
			*at++
		}
	}
	n, err := strconv.ParseInt(s[from:*at], 10, 64)
	return api.Value{Kind: api.Int, N: n}, err == nil
}

// readText reads what stands behind the open quote, and the other quote.
func readText(s string, at *int) (string, bool) {
	var text []byte
	for !take(s, at, `"`) {
		r, ok := readRune(s, at)
		if !ok {
			return "", false
		}
		text = utf8.AppendRune(text, r)
	}
	return string(text), true
}

// readRune goes by code points, as an escape is one too.
func readRune(s string, at *int) (rune, bool) {
	if take(s, at, `\`) {
		return readEscape(s, at)
	}
	r, size := utf8.DecodeRuneInString(s[*at:])
	if r < ' ' || r == utf8.RuneError && size < 2 {
		return 0, false
	}
	*at += size
	return r, true
}

// readEscape reads what stands behind the \.
func readEscape(s string, at *int) (rune, bool) {
	switch {
	case take(s, at, "u"):
		return readCode(s, at)
	case take(s, at, "/"):
		return '/', true
	}
	for i := range len(letters) {
		if take(s, at, letters[i:i+1]) {
			return rune(escaped[i]), true
		}
	}
	return 0, false
}

// readCode reads what stands behind the \u, and of a pair of halves the second one.
func readCode(s string, at *int) (rune, bool) {
	r, ok := readHex(s, at)
	if !ok || r < 0xd800 || r > 0xdfff {
		return r, ok
	}
	if r >= 0xdc00 || !take(s, at, `\u`) {
		return 0, false
	}
	low, ok := readHex(s, at)
	if !ok || low < 0xdc00 || low > 0xdfff {
		return 0, false
	}
	return 0x10000 + (r-0xd800)*0x400 + low - 0xdc00, true
}

func readHex(s string, at *int) (rune, bool) {
	if len(s)-*at < 4 {
		return 0, false
	}
	n, err := strconv.ParseUint(s[*at:*at+4], 16, 16)
	*at += 4
	return rune(n), err == nil
}
