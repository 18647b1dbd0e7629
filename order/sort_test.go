package order_test

import (
	"math/rand"
	"slices"
	"testing"

	"muniment/api"
	"muniment/json"
	"muniment/order"
)

// P3.1: Sort and Least.

// marked answers v again and again, all alike, but told apart by mark: by which of their lists of none are nil.
func marked(v api.Value) []api.Value {
	l := []api.Value{v}
	if len(v.Names) == 0 {
		l[0].Names = nil
		l = append(l, l[0])
		l[1].Names = []string{}
	}
	if len(v.Items) == 0 {
		for i := range l {
			l[i].Items = nil
			l = append(l, l[i])
			l[len(l)-1].Items = []api.Value{}
		}
	}
	return l
}

// mark is the number of v in what marked answered.
func mark(v api.Value) int {
	m := 0
	if v.Names != nil {
		m++
	}
	if v.Items != nil && len(v.Items) == 0 {
		m += 2
	}
	return m
}

func TestMarks(t *testing.T) {
	for s, n := range map[string]int{"null": 4, "true": 4, "7": 4, `"a"`: 4, "[]": 4, "{}": 4, "[1]": 2} {
		l := marked(read(t, s))
		if len(l) != n {
			t.Errorf("%s: %d", s, len(l))
		}
		for i, v := range l {
			if mark(v) != i || printed(v) != s {
				t.Errorf("%s: %d is %s, %d", s, i, printed(v), mark(v))
			}
		}
	}
}

// wantSorted holds Sort's and Least's answers against those of a plain way: each in turn goes ahead of the last ones that are greater.
func wantSorted(t *testing.T, l []api.Value) {
	t.Helper()
	var want []api.Value
	for _, v := range l {
		i := len(want)
		for i > 0 && expected(want[i-1], v) > 0 {
			i--
		}
		want = slices.Insert(want, i, v)
	}
	got := order.Sort(l)
	same := func(a, b api.Value) bool { return json.Same(a, b) && mark(a) == mark(b) }
	if !slices.EqualFunc(got, want, same) {
		t.Errorf("Sort(%s): %s", printedAll(l), printedAll(got))
	}
	least := -1
	for i, v := range l {
		if least < 0 && expected(v, want[0]) == 0 {
			least = i
		}
	}
	if got := order.Least(l); got != least {
		t.Errorf("Least(%s): %d, want %d", printedAll(l), got, least)
	}
}

func wantNone(t *testing.T, l []api.Value) {
	t.Helper()
	if got := order.Sort(l); len(got) != 0 {
		t.Errorf("Sort(%s): %s, want none", printedAll(l), printedAll(got))
	}
	if got := order.Least(l); got != -1 {
		t.Errorf("Least(%s): %d, want -1", printedAll(l), got)
	}
}

func TestSort(t *testing.T) {
	for _, c := range []struct {
		l, want []string
		least   int
	}{
		{[]string{"7"}, []string{"7"}, 0},
		{[]string{"2", "1"}, []string{"1", "2"}, 1},
		{[]string{"1", "2"}, []string{"1", "2"}, 0},
		{[]string{"1", "1"}, []string{"1", "1"}, 0},
		{[]string{"3", "1", "2", "1"}, []string{"1", "1", "2", "3"}, 1},
		{[]string{"{}", `"b"`, "null", `"a"`, "10", "9", "true", "[]"}, []string{"null", "true", "9", "10", `"a"`, `"b"`, "[]", "{}"}, 2},
		{[]string{`{"b":1}`, `{"a":2}`, "[2]", "[1,9]", "[1]"}, []string{"[1]", "[1,9]", "[2]", `{"a":2}`, `{"b":1}`}, 4},
		{[]string{"9223372036854775807", "-9223372036854775808", "0"}, []string{"-9223372036854775808", "0", "9223372036854775807"}, 1},
	} {
		l := readAll(t, c.l...)
		if got := printedAll(order.Sort(l)); got != printedAll(readAll(t, c.want...)) {
			t.Errorf("Sort(%s): %s", printedAll(l), got)
		}
		if got := order.Least(l); got != c.least {
			t.Errorf("Least(%s): %d, want %d", printedAll(l), got, c.least)
		}
	}
}

func TestSortOfNone(t *testing.T) {
	wantNone(t, nil)
	wantNone(t, []api.Value{})
	wantNone(t, make([]api.Value, 0, 5))
}

func TestSortOfOne(t *testing.T) {
	for _, s := range rising() {
		for _, v := range marked(read(t, s)) {
			wantSorted(t, []api.Value{v})
		}
	}
}

// Each order of a few, with some that are alike.
func TestSortInEachOrder(t *testing.T) {
	a, b := marked(read(t, "1")), marked(read(t, "[]"))
	for _, l := range [][]api.Value{
		{a[0], a[1], a[2], a[3], {}},
		{a[2], b[1], a[0], b[3], b[2]},
		readAll(t, "null", "0", `"a"`, "[1]", "{}", `{"a":1}`),
	} {
		inEachOrder(l, 0, func() { wantSorted(t, l) })
	}
}

func inEachOrder(l []api.Value, from int, tell func()) {
	if from == len(l) {
		tell()
	}
	for i := from; i < len(l); i++ {
		l[from], l[i] = l[i], l[from]
		inEachOrder(l, from+1, tell)
		l[from], l[i] = l[i], l[from]
	}
}

func TestSortRisingAndFalling(t *testing.T) {
	l := readAll(t, rising()...)
	wantSorted(t, l)
	slices.Reverse(l)
	wantSorted(t, l)
	wantSorted(t, append(l, l...))
}

// Those that are alike stay as they were, and the first one of them is told.
func TestSortOfAlike(t *testing.T) {
	r := rand.New(rand.NewSource(2))
	var few []api.Value
	for _, s := range []string{"null", "0", "1", `"a"`, "[]", "[1]", "[[]]", "{}"} {
		few = append(few, marked(read(t, s))...)
	}
	for n := range 300 {
		var l []api.Value
		for range n {
			l = append(l, few[r.Intn(len(few))])
		}
		wantSorted(t, l)
	}
	for at := range 50 {
		l := slices.Repeat([]api.Value{few[4]}, 50)
		l[at] = few[1] // the only null
		l[(at+7)%50], l[(at+20)%50] = few[5], few[7]
		wantSorted(t, l)
		if got := order.Least(l); got != at {
			t.Errorf("Least: %d, want %d", got, at)
		}
	}
}

func TestSortOfMany(t *testing.T) {
	r := rand.New(rand.NewSource(3))
	for range 300 {
		var l []api.Value
		for range r.Intn(60) {
			l = append(l, drawn(r, 1+r.Intn(4)))
		}
		wantSorted(t, l)
	}
	l := make([]api.Value, 100000)
	for i := range l {
		l[i] = api.Value{Kind: api.Int, N: int64(r.Intn(len(l)))}
	}
	got := order.Sort(l)
	slices.SortFunc(l, func(a, b api.Value) int { return int(a.N - b.N) })
	if !slices.EqualFunc(got, l, json.Same) {
		t.Error("100000 Ints aren't sorted")
	}
}

// One that isn't formed, alone or anywhere, alone or not.
func TestSortOfUnformed(t *testing.T) {
	good := readAll(t, "2", "1", "null", `{"a":1}`, "[]")
	for what, u := range unformedValues() {
		for _, bad := range []api.Value{u, {Kind: api.Array, Items: []api.Value{{}, u}}} {
			if json.Formed(bad) {
				t.Fatal(what)
			}
			wantNone(t, []api.Value{bad})
			wantNone(t, []api.Value{bad, bad})
			for at := range len(good) + 1 {
				wantNone(t, slices.Insert(slices.Clone(good), at, bad))
				wantNone(t, append(slices.Insert(slices.Clone(good), at, bad), bad))
			}
		}
	}
	long := slices.Repeat(good, 100)
	for at := 0; at < len(long); at += 83 {
		bad := slices.Clone(long)
		bad[at] = api.Value{Kind: api.Int, Text: "x"}
		wantNone(t, bad)
	}
	wantNone(t, []api.Value{holdsItself()})
	wantNone(t, append(good, holdsItself()))
}
