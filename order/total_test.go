package order_test

import (
	"math/rand"
	"testing"

	"muniment/api"
	"muniment/json"
	"muniment/order"
)

// P3.2: a total order, in which two formed values are alike just if they are the same.

func wantTotal(t *testing.T, a, b, c api.Value) {
	t.Helper()
	ab, bc, ac := order.Compare(a, b), order.Compare(b, c), order.Compare(a, c)
	if ab < -1 || ab > 1 {
		t.Errorf("Compare(%s, %s): %d", printed(a), printed(b), ab)
	}
	if order.Compare(b, a) != -ab {
		t.Errorf("Compare(%s, %s): %d, and the same the other way round", printed(a), printed(b), ab)
	}
	if (ab == 0) != json.Same(a, b) || (ab == 0) != (printed(a) == printed(b)) {
		t.Errorf("Compare(%s, %s): %d", printed(a), printed(b), ab)
	}
	if ab <= 0 && bc <= 0 && ac > min(ab, bc) || ab >= 0 && bc >= 0 && ac < max(ab, bc) {
		t.Errorf("%s, %s, %s: %d, %d, but %d", printed(a), printed(b), printed(c), ab, bc, ac)
	}
}

func TestTotalOrder(t *testing.T) {
	texts := rising()
	l := append(readAll(t, texts...), readAll(t, texts...)...)
	for i, a := range l {
		for k, b := range l {
			wantTotal(t, a, b, l[(5*i+7*k)%len(l)])
		}
	}
}

func TestTotalOrderOfMany(t *testing.T) {
	r := rand.New(rand.NewSource(4))
	alike := 0
	for range 30000 {
		a := drawn(r, 1+r.Intn(6))
		b, c := near(r, a), drawn(r, 1+r.Intn(6))
		wantTotal(t, a, b, c)
		wantTotal(t, b, a, near(r, b))
		wantTotal(t, drawn(r, 2), drawn(r, 2), drawn(r, 2))
		if json.Same(a, b) {
			alike++
		}
	}
	if alike < 1000 {
		t.Error("too few were alike:", alike)
	}
}

// What is read again from its text is alike, and shares no memory.
func TestAlikeInOtherMemory(t *testing.T) {
	r := rand.New(rand.NewSource(5))
	for range 10000 {
		v := drawn(r, 1+r.Intn(6))
		wantCompare(t, v, read(t, printed(v)), 0)
	}
}
