package json_test

import (
	"math/rand"
	"strings"
	"testing"

	"muniment/api"
	"muniment/json"
)

// P1.3: there and back.

// wantBack prints v, reads that, and prints what was read.
func wantBack(t *testing.T, v api.Value) {
	t.Helper()
	s, err := json.Print(v)
	if err != api.OK {
		t.Fatalf("Print(%v): error %d", v, err)
	}
	if len(s) > api.MaxText {
		wantReadError(t, s, api.ErrLong)
		return
	}
	wantRead(t, s, v)
	back, _ := json.Read(s)
	if !json.Same(back, v) {
		t.Errorf("%q isn't read as the same", short(s))
	}
	wantPrint(t, back, s)
}

func TestThereAndBack(t *testing.T) {
	for _, v := range formedValues() {
		wantBack(t, v)
	}
	for r := rune(0); r <= 0x10ffff; r++ {
		if r < 0xd800 || r > 0xdfff && (r < 0x10100 || r%61 == 0 || r > 0x10ff00) {
			wantBack(t, text(string(r)))
		}
	}
}

// sized is a formed value whose text has that many bytes, for some hundred bytes around MaxText: 13 rows of 24 strings of 60 bytes, and a row of 6 that fill up.
func sized(t *testing.T, n int) api.Value {
	row, last, v := array(), array(), array()
	for range 24 {
		row.Items = append(row.Items, text(strings.Repeat("x", 60)))
	}
	for range 13 {
		v.Items = append(v.Items, row)
	}
	for range 6 {
		last.Items = append(last.Items, text(""))
	}
	v.Items = append(v.Items, last)
	s, err := json.Print(v)
	if err != api.OK {
		t.Fatal(err)
	}
	left := n - len(s)
	for i := range last.Items {
		last.Items[i] = text(strings.Repeat("y", min(left, 60)))
		left -= min(left, 60)
	}
	return v
}

func TestThereAndBackAtMaxText(t *testing.T) {
	for n := api.MaxText - 3; n <= api.MaxText+3; n++ {
		v := sized(t, n)
		s, _ := json.Print(v)
		if len(s) != n {
			t.Fatal(len(s), n)
		}
		if n <= api.MaxText {
			wantRead(t, s, v)
		} else {
			wantReadError(t, s, api.ErrLong)
		}
	}
}

// drawn is a formed value, drawn by r, which has a beginning that the test sets.
func drawn(r *rand.Rand, levels int) api.Value {
	kind := r.Intn(7)
	if levels == 1 {
		kind = r.Intn(5)
	}
	v := api.Value{Kind: kind}
	switch kind {
	case api.Int:
		v.N = int64(r.Uint64()) >> r.Intn(64)
	case api.String:
		v.Text = drawnText(r)
	case api.Array, api.Object:
		n := r.Intn(5)
		if r.Intn(20) == 0 {
			n = 24
		}
		for range n {
			v.Items = append(v.Items, drawn(r, levels-1))
		}
		if kind == api.Object {
			v.Names = drawnNames(r, n)
		}
	}
	return v
}

func drawnText(r *rand.Rand) string {
	s := ""
	for range r.Intn(20) {
		next := string(rune(r.Intn(128)))
		if r.Intn(4) == 0 {
			next = string(rune(r.Intn(0x110000))) // a half becomes U+FFFD
		}
		if len(s)+len(next) <= 60 {
			s += next
		}
	}
	return s
}

// drawnNames answers names that rise by their first bytes.
func drawnNames(r *rand.Rand, n int) []string {
	var l []string
	for i := range n {
		l = append(l, string([]byte{'a' + byte(i)})+string(rune(r.Intn(0x110000))))
	}
	return l
}

func TestThereAndBackOfMany(t *testing.T) {
	r := rand.New(rand.NewSource(1))
	for range 20000 {
		wantBack(t, drawn(r, 1+r.Intn(6)))
	}
}

// What is read, printed, and read again is as it was, whatever way the text was written.
func TestReadPrintRead(t *testing.T) {
	r := rand.New(rand.NewSource(2))
	read := 0
	for range 20000 {
		s, _ := json.Print(drawn(r, 1+r.Intn(4)))
		s = spoilt(r, s)
		v, err := json.Read(s)
		if err != api.OK {
			if !alike(v, api.Value{}) {
				t.Errorf("Read(%q): %v beside error %d", short(s), v, err)
			}
			continue
		}
		read++
		if !json.Formed(v) {
			t.Errorf("Read(%q): %v isn't formed", short(s), v)
		}
		wantBack(t, v)
	}
	if read < 1000 {
		t.Error("too few texts were read:", read)
	}
}

// spoilt changes a byte or two of s, puts some in, or takes some out.
func spoilt(r *rand.Rand, s string) string {
	const bytes = " \t\n\r\"\\/bfnrtu[]{},:-0123456789aZ\x00\x1f\x7f\xc3\xa9\xed\xa0"
	for range r.Intn(3) {
		at := r.Intn(len(s) + 1)
		i := r.Intn(len(bytes))
		b := bytes[i : i+1]
		switch r.Intn(3) {
		case 0:
			s = s[:at] + b + s[at:]
		case 1:
			if at < len(s) {
				s = s[:at] + b + s[at+1:]
			}
		case 2:
			if at < len(s) && len(s) > 1 {
				s = s[:at] + s[at+1:]
			}
		}
	}
	return s
}

// Two values of one text are the same, and two texts of one value are one.
func TestTextsTellValuesApart(t *testing.T) {
	r := rand.New(rand.NewSource(3))
	seen := map[string]api.Value{}
	for range 5000 {
		v := drawn(r, 1+r.Intn(3))
		s, _ := json.Print(v)
		if w, ok := seen[s]; ok && !alike(v, w) {
			t.Errorf("%q is printed of two values: %v, %v", short(s), v, w)
		}
		seen[s] = v
	}
}
