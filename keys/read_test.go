package keys_test

import (
	"bytes"
	"strings"
	"testing"
	"unicode/utf8"

	"muniment/api"
	"muniment/json"
	"muniment/keys"
)

// P4.1: Read, of bytes that no Key has answered.

// Whatever is cut off, nothing is left that is a key.
func TestReadCutOff(t *testing.T) {
	wantBad(t, "")
	if _, _, err := keys.Read(nil); err != api.ErrBad {
		t.Errorf("Read(nil): error %d", err)
	}
	for _, v := range rising(t) {
		key := keyOf(v)
		for n := range len(key) {
			wantBad(t, key[:n])
			wantBad(t, "\x06"+key[:n])
			wantBad(t, "\x07\x01a\x00\x00"+key[:n])
		}
	}
}

// A Kind that is none, alone and within.
func TestReadKinds(t *testing.T) {
	for c := range 256 {
		kind := string([]byte{byte(c)})
		if c >= 1 && c <= 7 {
			continue
		}
		for _, rest := range []string{"", "\x00", "\x00\x00", "\x01\x00", "a\x00\x00", "\x80\x00\x00\x00\x00\x00\x00\x05"} {
			wantBad(t, kind+rest)
			wantBad(t, "\x07\x01a\x00\x00"+kind+rest)
			if c != 0 {
				wantBad(t, "\x06"+kind+rest+"\x00")
				wantBad(t, "\x06\x01"+kind+rest+"\x00")
			}
		}
	}
}

// What else may follow a 0 in a text, or stand ahead of a member.
func TestReadMarks(t *testing.T) {
	for c := range 256 {
		mark := string([]byte{byte(c)})
		if c != 0 && c != 255 {
			wantBad(t, "\x05\x00"+mark+"\x00\x00")
			wantBad(t, "\x05a\x00"+mark+"b\x00\x00")
			wantBad(t, "\x07\x01\x00"+mark+"\x00\x00\x01\x00")
			wantBad(t, "\x07\x01a\x00"+mark+"\x00\x00\x01\x00")
		}
		if c > 1 {
			wantBad(t, "\x07"+mark+"a\x00\x00\x01\x00")
			wantBad(t, "\x07\x01a\x00\x00\x01"+mark+"b\x00\x00\x01\x00")
		}
	}
	wantRead(t, "\x05a\x00\x00\xff", text("a"), 4)
	wantRead(t, "\x05a\x00\xff\x00\x00", text("a\x00"), 6)
}

// What would be read as a value that isn't formed.
func TestReadUnformed(t *testing.T) {
	x61, z61 := strings.Repeat("x", 61), strings.Repeat("\x00", 61)
	for _, s := range []string{x61, z61, strings.Repeat("x", 1000), strings.Repeat("\u20ac", 21), "\xff", "a\xff", "\xff\xff", "\xe2\x82", "\xc0\x80", "\xed\xa0\x80", "\xf4\x90\x80\x80", "\x80"} {
		wantBad(t, "\x05"+textOf(s))
		wantBad(t, "\x06\x05"+textOf(s)+"\x00")
		wantBad(t, "\x07\x01"+textOf(s)+"\x01\x00")
		wantBad(t, "\x07\x01a\x00\x00\x05"+textOf(s)+"\x00")
	}
	for n := range 5 {
		more := strings.Repeat("\x01", n)
		wantBad(t, "\x06"+strings.Repeat("\x01", 25)+more+"\x00")
		wantBad(t, "\x06\x06"+strings.Repeat("\x03", 25)+more+"\x00\x00")
		wantBad(t, keyOf(wide(api.Object, 25+n, api.Value{})))
		wantBad(t, "\x06"+keyOf(wide(api.Object, 25+n, api.Value{}))+"\x00")
	}
	for depth := 6; depth < 30; depth++ {
		for _, inner := range []api.Value{{}, integer(1), text("a"), array(), {Kind: api.Object}} {
			wantBad(t, keyOf(nested(depth, inner)))
			wantBad(t, keyOf(nestedObjects(depth, inner)))
			wantBad(t, keyOf(array(api.Value{}, nested(depth-1, inner), api.Value{})))
		}
	}
}

// Members whose names don't rise.
func TestReadNames(t *testing.T) {
	for _, l := range []string{"a,a", ",", "b,a", "a,", "ab,a", "a\x00,a", "a,c,b", "b,a,c", "a,b,b", "a,b,a", "\u00ff,z", "\U00010000,\uffff", "\x01,\x00"} {
		v := object(l, make([]api.Value, strings.Count(l, ",")+1)...)
		if json.Formed(v) {
			t.Fatal(l)
		}
		wantBad(t, keyOf(v))
		wantBad(t, keyOf(array(v)))
		wantBad(t, keyOf(named("a", v)))
	}
}

// However long the bytes are, Read ends soon, and at what is no key.
func TestReadOfLongBytes(t *testing.T) {
	for c := range 256 {
		long := strings.Repeat(string([]byte{byte(c)}), 1<<20)
		if c >= 1 && c <= 3 {
			wantRead(t, long, api.Value{Kind: c - 1}, 1)
		} else if c == 4 {
			wantRead(t, long, integer(0x0404040404040404-1<<63), 9)
		} else {
			wantBad(t, long)
		}
		wantBad(t, "\x05a"+strings.Repeat("\x00\xff", 1<<10)+long)
		wantBad(t, "\x06\x06"+strings.Repeat("\x02", 24)+strings.Replace(long, "\x00", "\x08", 1))
	}
	wantBad(t, strings.Repeat("\x07\x01a\x00\x00", 1<<20))
	wantBad(t, "\x07"+strings.Repeat("\x01a\x00\x00\x01", 1<<20))
	wantRead(t, "\x06\x01\x00"+strings.Repeat("\x00", 1<<20), array(api.Value{}), 3)
}

// small tells by their keys all values whose keys have at most most bytes, all of them out of alphabet.
func small(most int, alphabet string) map[string]api.Value {
	// texts[n] and bySize[n]: those that are written with n bytes
	texts, bySize := make([][]string, most+1), make([][]api.Value, most+1)
	for n := 2; n <= most; n++ {
		for _, s := range strung(n-2, alphabet) {
			if utf8.ValidString(s) && !strings.ContainsRune(s, 0) {
				texts[n] = append(texts[n], s)
			}
		}
	}
	if strings.Contains(alphabet, "\xff") {
		for n := 4; n <= most; n++ { // a 0 is written with two bytes
			for k := 2; k <= n-2; k++ {
				for _, ahead := range texts[k] {
					for _, behind := range texts[n-k] {
						if !strings.ContainsRune(ahead, 0) {
							texts[n] = append(texts[n], ahead+"\x00"+behind)
						}
					}
				}
			}
		}
	}
	m := map[string]api.Value{}
	for n := 1; n <= most; n++ {
		if n == 1 {
			bySize[1] = []api.Value{{}, {Kind: api.False}, {Kind: api.True}}
		} else {
			for _, l := range lists(n-2, bySize) {
				bySize[n] = append(bySize[n], array(l...))
			}
			bySize[n] = append(bySize[n], objects(n-2, "", false, texts, bySize)...)
			for _, s := range texts[n-1] {
				bySize[n] = append(bySize[n], text(s))
			}
		}
		for _, v := range bySize[n] {
			if key := keyOf(v); json.Formed(v) && outOf(key, alphabet) {
				m[key] = v
			}
		}
	}
	return m
}

func outOf(s, alphabet string) bool {
	for i := range len(s) {
		if strings.IndexByte(alphabet, s[i]) < 0 {
			return false
		}
	}
	return true
}

// strung are all strings of n bytes out of alphabet.
func strung(n int, alphabet string) []string {
	if n == 0 {
		return []string{""}
	}
	var l []string
	for _, s := range strung(n-1, alphabet) {
		for i := range len(alphabet) {
			l = append(l, s+alphabet[i:i+1])
		}
	}
	return l
}

// lists are all lists of values whose keys have n bytes in all.
func lists(n int, bySize [][]api.Value) [][]api.Value {
	if n == 0 {
		return [][]api.Value{nil}
	}
	var l [][]api.Value
	for k := 1; k <= n; k++ {
		for _, first := range bySize[k] {
			for _, rest := range lists(n-k, bySize) {
				l = append(l, append([]api.Value{first}, rest...))
			}
		}
	}
	return l
}

// objects are all Objects whose members have n bytes in all, and names behind last, if there is one.
func objects(n int, last string, isLast bool, texts [][]string, bySize [][]api.Value) []api.Value {
	if n == 0 {
		return []api.Value{{Kind: api.Object}}
	}
	var l []api.Value
	for k := 2; k <= n-2; k++ {
		for _, name := range texts[k] {
			if isLast && name <= last {
				continue
			}
			for size := 1; size <= n-1-k; size++ {
				for _, first := range bySize[size] {
					for _, rest := range objects(n-1-k-size, name, true, texts, bySize) {
						l = append(l, api.Value{Kind: api.Object, Names: append([]string{name}, rest.Names...), Items: append([]api.Value{first}, rest.Items...)})
					}
				}
			}
		}
	}
	return l
}

// Of all bytes out of a few, those that begin with a key are read as its value, and no others.
func TestReadOfAllShortBytes(t *testing.T) {
	const alphabet = "\x00\x01\x02\x05\x06\x07\x08\xff"
	known := small(7, alphabet)
	for _, key := range []string{"\x06\x06\x06\x00\x00\x00", "\x07\x01\x00\x00\x01\x00", "\x07\x01\x02\x00\x00\x01\x00", "\x05\x00\xff\x02\x00\x00", "\x06\x05\x00\x00\x01\x00", "\x05\x00\xff\x00\xff\x00\x00"} {
		if _, ok := known[key]; !ok {
			t.Errorf("% x isn't known to the test", key)
		}
	}
	found := 0
	for _, b := range strung(7, alphabet) {
		size := 0
		for n := 1; n <= len(b) && size == 0; n++ {
			if _, ok := known[b[:n]]; ok {
				size = n
			}
		}
		v, n, err := keys.Read([]byte(b))
		want := api.OK
		if size == 0 {
			want = api.ErrBad
		}
		if err != want || n != size || !json.Same(v, known[b[:size]]) {
			t.Fatalf("Read(% x): %s, %d, error %d, want %d bytes, error %d", b, printed(v), n, err, size, want)
		}
		if size == 7 {
			found++
		}
	}
	if found < 100 {
		t.Error("too few were keys from beginning to end:", found)
	}
}

// With one byte changed, or taken out, bytes are the key of what is read, or of none.
func TestReadOfSpoiltBytes(t *testing.T) {
	for _, v := range rising(t) {
		key := []byte(keyOf(v))
		if len(key) > 70 {
			continue
		}
		for at := range key {
			for c := range 256 {
				b := bytes.Clone(key)
				b[at] = byte(c)
				wantKeyOrBad(t, b)
			}
			wantKeyOrBad(t, append(bytes.Clone(key[:at]), key[at+1:]...))
		}
	}
}

func wantKeyOrBad(t *testing.T, b []byte) {
	t.Helper()
	v, n, err := keys.Read(b)
	if err == api.ErrBad {
		wantBad(t, string(b))
		return
	}
	if err != api.OK || n < 1 || n > len(b) || !json.Formed(v) || keyOf(v) != string(b[:min(n, len(b))]) {
		t.Errorf("Read(% x): %s, %d, error %d", b, printed(v), n, err)
	}
}
