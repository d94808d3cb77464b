package span_test

import (
	"math"
	"slices"
	"testing"

	"hostelry/api"
	"hostelry/span"
)

// of is short for the literals of the tables.
func of(from, to int) api.Span {
	return api.Span{From: from, To: to}
}

// none are spans that are not valid.
func none() []api.Span {
	return []api.Span{
		{},
		of(5, 5),
		of(9, 5),
		of(1, 0),
		of(-1, 0),
		of(-1, 5),
		of(-5, -1),
		of(0, api.MaxMinute+1),
		of(api.MaxMinute, api.MaxMinute),
		of(api.MaxMinute, api.MaxMinute+1),
		of(api.MaxMinute-1, api.MaxMinute+1),
		of(api.MaxMinute+1, api.MaxMinute+2),
		of(api.MaxMinute, 0),
		of(math.MinInt, math.MaxInt),
		of(math.MinInt, math.MinInt),
		of(math.MinInt, 5),
		of(5, math.MinInt),
		of(0, math.MaxInt),
		of(math.MaxInt, 0),
		of(math.MaxInt, math.MinInt),
		of(math.MaxInt, math.MaxInt),
	}
}

// some are valid spans: at both ends of all minutes, and from one minute to all of them.
func some() []api.Span {
	return []api.Span{
		of(0, 1),
		of(0, 9),
		of(5, 9),
		of(10, 20),
		of(0, api.MaxMinute),
		of(1, api.MaxMinute),
		of(0, api.MaxMinute-1),
		of(api.MaxMinute-1, api.MaxMinute),
	}
}

// near are all spans of which both ends lie in a small row of minutes, with
// the ends and lengths that are not valid among them.
func near() []api.Span {
	var out []api.Span
	for from := -2; from <= 7; from++ {
		for to := -2; to <= 7; to++ {
			out = append(out, of(from, to))
		}
	}
	return out
}

// minutes are more than those of the spans of near.
const minutes = 10

// has tells by the words of the chapter whether a minute is in a span.
func has(a api.Span, m int) bool {
	if a.From < 0 || a.From >= a.To || a.To > api.MaxMinute {
		return false
	}
	return m >= a.From && m <= a.To-1
}

// expect fails unless exactly those small minutes are in the spans that are
// wanted, and the spans are valid, ascending and apart from each other.
func expect(t *testing.T, got []api.Span, wanted func(m int) bool, what string, args ...api.Span) {
	t.Helper()
	for i, a := range got {
		if a.From < 0 || a.From >= a.To || a.To > minutes || i > 0 && got[i-1].To >= a.From {
			t.Fatalf("%s of %v = %v: wrong at index %d", what, args, got, i)
		}
	}
	for m := -3; m < minutes; m++ {
		in := slices.ContainsFunc(got, func(a api.Span) bool { return has(a, m) })
		if in != wanted(m) {
			t.Fatalf("%s of %v = %v: minute %d", what, args, got, m)
		}
	}
}

// P2.1

func TestIs(t *testing.T) {
	for _, a := range some() {
		if !span.Is(a) {
			t.Errorf("Is(%v) is false", a)
		}
	}
	for _, a := range none() {
		if span.Is(a) {
			t.Errorf("Is(%v) is true", a)
		}
	}
}

func TestLong(t *testing.T) {
	for a, want := range map[api.Span]int{
		of(0, 1):                                 1,
		of(5, 9):                                 4,
		of(10, 20):                               10,
		of(0, api.MaxMinute):                     api.MaxMinute,
		of(api.MaxMinute-1, api.MaxMinute):       1,
		of(api.MaxMinute-api.Day, api.MaxMinute): api.Day,
		of(api.MaxLong, api.MaxLong+api.Day+1):   api.Day + 1,
	} {
		if got := span.Long(a); got != want {
			t.Errorf("Long(%v) = %d, want %d", a, got, want)
		}
	}
	for _, a := range none() {
		if got := span.Long(a); got != 0 {
			t.Errorf("Long(%v) = %d", a, got)
		}
	}
}

func TestIn(t *testing.T) {
	for _, a := range append(some(), none()...) {
		for _, edge := range []int{0, 1, 5, 9, 10, 20, a.From, a.To, api.MaxMinute, math.MinInt, math.MaxInt} {
			for _, m := range []int{edge - 1, edge, edge + 1} {
				if got := span.In(a, m); got != has(a, m) {
					t.Errorf("In(%v, %d) = %v", a, m, got)
				}
			}
		}
	}
}

func TestInNamesFromAndNotTo(t *testing.T) {
	for m, want := range map[int]bool{4: false, 5: true, 8: true, 9: false, -5: false} {
		if got := span.In(of(5, 9), m); got != want {
			t.Errorf("In(5..9, %d) = %v", m, got)
		}
	}
}

func TestMeet(t *testing.T) {
	for _, c := range []struct{ a, b, want api.Span }{
		{of(0, 9), of(5, 20), of(5, 9)},
		{of(0, 9), of(0, 9), of(0, 9)},
		{of(10, 20), of(12, 15), of(12, 15)},
		{of(10, 20), of(10, 15), of(10, 15)},
		{of(10, 20), of(15, 20), of(15, 20)},
		{of(0, 5), of(5, 9), api.Span{}}, // they only touch
		{of(0, 6), of(5, 9), of(5, 6)},
		{of(0, 4), of(5, 9), api.Span{}},
		{of(0, api.MaxMinute), of(10, 20), of(10, 20)},
		{of(0, api.MaxMinute), of(api.MaxMinute-1, api.MaxMinute), of(api.MaxMinute-1, api.MaxMinute)},
		{of(0, api.MaxMinute+1), of(10, 20), api.Span{}},
		{of(-1, 20), of(10, 20), api.Span{}},
		{of(20, 10), of(12, 15), api.Span{}},
	} {
		if got := span.Meet(c.a, c.b); got != c.want {
			t.Errorf("Meet(%v, %v) = %v, want %v", c.a, c.b, got, c.want)
		}
		if got := span.Meet(c.b, c.a); got != c.want {
			t.Errorf("Meet(%v, %v) = %v, want %v", c.b, c.a, got, c.want)
		}
	}
}

func TestTouch(t *testing.T) {
	for _, c := range []struct {
		a, b api.Span
		want bool
	}{
		{of(0, 5), of(5, 9), true},
		{of(0, 6), of(5, 9), true},
		{of(0, 4), of(5, 9), false},
		{of(5, 9), of(5, 9), true},
		{of(10, 20), of(12, 15), true},
		{of(0, 1), of(api.MaxMinute-1, api.MaxMinute), false},
		{of(0, 1), of(1, api.MaxMinute), true},
		{of(0, 1), of(2, api.MaxMinute), false},
		{of(5, 5), of(5, 9), false}, // an empty one touches nothing
		{of(7, 7), of(5, 9), false},
		{of(9, 5), of(5, 9), false},
		{of(-1, 5), of(5, 9), false},
		{of(5, api.MaxMinute+1), of(5, 9), false},
		{api.Span{}, of(0, 1), false},
		{api.Span{}, api.Span{}, false},
	} {
		if got := span.Touch(c.a, c.b); got != c.want {
			t.Errorf("Touch(%v, %v) = %v", c.a, c.b, got)
		}
		if got := span.Touch(c.b, c.a); got != c.want {
			t.Errorf("Touch(%v, %v) = %v", c.b, c.a, got)
		}
	}
}

func TestWithin(t *testing.T) {
	for _, c := range []struct {
		a, b api.Span
		want bool
	}{
		{of(12, 15), of(10, 20), true},
		{of(10, 20), of(10, 20), true},
		{of(10, 15), of(10, 20), true},
		{of(15, 20), of(10, 20), true},
		{of(10, 20), of(12, 15), false},
		{of(9, 15), of(10, 20), false},
		{of(15, 21), of(10, 20), false},
		{of(0, 10), of(10, 20), false},
		{of(30, 40), of(10, 20), false},
		{of(0, api.MaxMinute), of(0, api.MaxMinute), true},
		{of(0, api.MaxMinute), of(0, api.MaxMinute+1), false},
		{of(5, 9), api.Span{}, false},
		{of(5, 9), of(9, 5), false},
		{of(5, 9), of(-1, 20), false},
		{of(30, 10), of(10, 20), true},
		{api.Span{}, api.Span{}, true},
		{of(0, api.MaxMinute+1), of(5, 9), true},
	} {
		if got := span.Within(c.a, c.b); got != c.want {
			t.Errorf("Within(%v, %v) = %v", c.a, c.b, got)
		}
	}
}

func TestMinus(t *testing.T) {
	for _, c := range []struct {
		a, b api.Span
		want []api.Span
	}{
		{of(10, 20), of(12, 15), []api.Span{of(10, 12), of(15, 20)}},
		{of(10, 20), of(10, 15), []api.Span{of(15, 20)}},
		{of(10, 20), of(15, 20), []api.Span{of(10, 15)}},
		{of(10, 20), of(5, 15), []api.Span{of(15, 20)}},
		{of(10, 20), of(15, 25), []api.Span{of(10, 15)}},
		{of(10, 20), of(10, 20), nil},
		{of(10, 20), of(5, 25), nil},
		{of(10, 20), of(5, 10), []api.Span{of(10, 20)}}, // they only touch
		{of(10, 20), of(20, 25), []api.Span{of(10, 20)}},
		{of(10, 20), of(0, 5), []api.Span{of(10, 20)}},
		{of(10, 20), of(30, 40), []api.Span{of(10, 20)}},
		{of(10, 20), of(15, 15), []api.Span{of(10, 20)}}, // an empty one does not part
		{of(10, 20), of(15, 12), []api.Span{of(10, 20)}},
		{of(10, 20), of(-1, 15), []api.Span{of(10, 20)}},
		{of(10, 20), of(15, api.MaxMinute+1), []api.Span{of(10, 20)}},
		{of(10, 20), api.Span{}, []api.Span{of(10, 20)}},
		{of(20, 10), of(12, 15), nil},
		{of(-1, 20), of(12, 15), nil},
		{of(10, api.MaxMinute+1), of(12, 15), nil},
		{of(0, api.MaxMinute), of(1, api.MaxMinute-1), []api.Span{of(0, 1), of(api.MaxMinute-1, api.MaxMinute)}},
		{api.Span{}, api.Span{}, nil},
	} {
		if got := span.Minus(c.a, c.b); !slices.Equal(got, c.want) {
			t.Errorf("Minus(%v, %v) = %v, want %v", c.a, c.b, got, c.want)
		}
	}
}

func TestASpanThatIsNotValidCountsAsEmpty(t *testing.T) {
	for _, e := range none() {
		for _, a := range append(some(), none()...) {
			if span.Meet(a, e) != (api.Span{}) || span.Meet(e, a) != (api.Span{}) {
				t.Errorf("%v meets %v", a, e)
			}
			if span.Touch(a, e) || span.Touch(e, a) {
				t.Errorf("%v touches %v", a, e)
			}
			if !span.Within(e, a) || span.Within(a, e) != !span.Is(a) {
				t.Errorf("%v and %v: one is wrongly within the other", a, e)
			}
			var whole []api.Span
			if span.Is(a) {
				whole = []api.Span{a}
			}
			if got := span.Minus(a, e); !slices.Equal(got, whole) {
				t.Errorf("Minus(%v, %v) = %v", a, e, got)
			}
			if got := span.Minus(e, a); len(got) != 0 {
				t.Errorf("Minus(%v, %v) = %v", e, a, got)
			}
			if got := span.All([]api.Span{e, a, e}); !slices.Equal(got, whole) {
				t.Errorf("All of %v, %v, %v = %v", e, a, e, got)
			}
		}
	}
}

// P2.3

func TestEachMinuteIsInASpanOrNot(t *testing.T) {
	for _, a := range near() {
		in := 0
		for m := -3; m < minutes; m++ {
			if span.In(a, m) != has(a, m) {
				t.Fatalf("In(%v, %d) = %v", a, m, span.In(a, m))
			}
			if has(a, m) {
				in++
			}
		}
		if span.Long(a) != in || span.Is(a) != (in > 0) {
			t.Fatalf("%v: Long is %d and Is is %v, with %d minutes", a, span.Long(a), span.Is(a), in)
		}
	}
}

func TestEachMinuteIsInBothSpansOrNot(t *testing.T) {
	for _, a := range near() {
		for _, b := range near() {
			both := func(m int) bool { return has(a, m) && has(b, m) }
			left := func(m int) bool { return has(a, m) && !has(b, m) }
			got := span.Meet(a, b)
			if got != (api.Span{}) {
				expect(t, []api.Span{got}, both, "Meet", a, b)
			} else {
				expect(t, nil, both, "Meet", a, b)
			}
			expect(t, span.Minus(a, b), left, "Minus", a, b)
			if within := len(span.Minus(a, b)) == 0; span.Within(a, b) != within {
				t.Fatalf("Within(%v, %v) = %v", a, b, !within)
			}
			touch := span.Is(a) && span.Is(b) && len(span.All([]api.Span{a, b})) == 1
			if span.Touch(a, b) != touch {
				t.Fatalf("Touch(%v, %v) = %v", a, b, !touch)
			}
		}
	}
}
