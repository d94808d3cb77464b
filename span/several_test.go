package span_test

import (
	"math/rand"
	"slices"
	"testing"

	"hostelry/api"
	"hostelry/span"
)

// P2.2

func TestAll(t *testing.T) {
	for _, c := range []struct{ l, want []api.Span }{
		{nil, nil},
		{[]api.Span{}, nil},
		{[]api.Span{{}}, nil},
		{none(), nil},
		{[]api.Span{of(5, 9)}, []api.Span{of(5, 9)}},
		{[]api.Span{of(5, 9), of(0, 5)}, []api.Span{of(0, 9)}}, // they only touch
		{[]api.Span{of(0, 5), of(5, 9)}, []api.Span{of(0, 9)}},
		{[]api.Span{of(0, 5), of(6, 9)}, []api.Span{of(0, 5), of(6, 9)}},
		{[]api.Span{of(6, 9), of(0, 5)}, []api.Span{of(0, 5), of(6, 9)}},
		{[]api.Span{of(5, 9), of(5, 9)}, []api.Span{of(5, 9)}},
		{[]api.Span{of(0, 20), of(5, 9)}, []api.Span{of(0, 20)}}, // the later one ends earlier
		{[]api.Span{of(5, 9), of(0, 20), of(15, 30)}, []api.Span{of(0, 30)}},
		{[]api.Span{of(0, 20), of(0, 5), of(10, 12), of(21, 22)}, []api.Span{of(0, 20), of(21, 22)}},
		{[]api.Span{of(0, 5), of(10, 15), of(5, 10)}, []api.Span{of(0, 15)}}, // one that closes a gap
		{[]api.Span{of(40, 50), of(20, 30), of(0, 10)}, []api.Span{of(0, 10), of(20, 30), of(40, 50)}},
		{[]api.Span{of(0, 5), of(5, 5), of(8, 6), of(7, 9)}, []api.Span{of(0, 5), of(7, 9)}},
		{[]api.Span{of(0, 5), of(-1, 30), of(2, api.MaxMinute+1), of(7, 9)}, []api.Span{of(0, 5), of(7, 9)}},
		{[]api.Span{of(1, api.MaxMinute), of(0, 1)}, []api.Span{of(0, api.MaxMinute)}},
		{some(), []api.Span{of(0, api.MaxMinute)}},
	} {
		if got := span.All(c.l); !slices.Equal(got, c.want) {
			t.Errorf("All(%v) = %v, want %v", c.l, got, c.want)
		}
	}
}

func TestAllOfEachThree(t *testing.T) {
	var few []api.Span
	for _, a := range near() {
		if a.From >= -1 && a.From <= 5 && a.To >= -1 && a.To <= 5 {
			few = append(few, a)
		}
	}
	for _, a := range few {
		for _, b := range few {
			for _, c := range few {
				checkAll(t, []api.Span{a, b, c})
			}
		}
	}
}

func TestAllOfManyRows(t *testing.T) {
	r := rand.New(rand.NewSource(2))
	for range 20000 {
		l := make([]api.Span, r.Intn(8))
		for i := range l {
			l[i] = of(r.Intn(minutes+2)-2, r.Intn(minutes+2)-2)
		}
		checkAll(t, l)
	}
}

func checkAll(t *testing.T, l []api.Span) {
	t.Helper()
	inOne := func(m int) bool {
		return slices.ContainsFunc(l, func(a api.Span) bool { return has(a, m) })
	}
	got := span.All(l)
	expect(t, got, inOne, "All", l...)
	if again := span.All(got); !slices.Equal(again, got) {
		t.Fatalf("All(%v) = %v", got, again)
	}
}

func TestAllOfALongRow(t *testing.T) {
	const n = 200000
	apart, joined := make([]api.Span, n), make([]api.Span, n)
	for i := range n {
		k := (i*7919 + 13) % n // each number once, far from ascending
		apart[i], joined[i] = of(2*k, 2*k+1), of(k, k+1)
	}
	got := span.All(apart)
	if len(got) != n {
		t.Fatalf("All has %d spans, want %d", len(got), n)
	}
	for i, a := range got {
		if a != of(2*i, 2*i+1) {
			t.Fatalf("All has %v at index %d", a, i)
		}
	}
	if got := span.All(joined); !slices.Equal(got, []api.Span{of(0, n)}) {
		t.Fatalf("All of a row without gaps has %d spans", len(got))
	}
}

// The rules of DOC.md.

func TestAllLeavesItsArgument(t *testing.T) {
	for _, l := range [][]api.Span{
		{of(6, 9), of(0, 5), of(9, 5), of(20, 30), of(4, 7)},
		{of(0, 5), of(6, 9)}, // nothing to sort
		{of(5, 9)},
		{},
	} {
		row := append(slices.Clone(l), of(100, 200), of(-7, -7), of(0, 3)) // the last ones are spare
		was := slices.Clone(row)
		got := span.All(row[:len(l)])
		if !slices.Equal(row, was) {
			t.Errorf("All of %v left %v", was, row)
		}
		spoil(got)
		if !slices.Equal(row, was) {
			t.Errorf("the result of All of %v lies in it", was)
		}
	}
}

func TestAllDoesNotKeepItsArgument(t *testing.T) {
	l := []api.Span{of(0, 5), of(6, 9)}
	got := span.All(l)
	spoil(l)
	if want := []api.Span{of(0, 5), of(6, 9)}; !slices.Equal(got, want) || !slices.Equal(span.All(want), want) {
		t.Errorf("All is %v after a change of its argument", got)
	}
}

func TestResultsHaveMemoryOfTheirOwn(t *testing.T) {
	calls := map[string]func() []api.Span{
		"Minus in two": func() []api.Span { return span.Minus(of(10, 20), of(12, 15)) },
		"Minus in one": func() []api.Span { return span.Minus(of(10, 20), of(10, 15)) },
		"Minus apart":  func() []api.Span { return span.Minus(of(10, 20), of(30, 40)) },
		"Minus all":    func() []api.Span { return span.Minus(of(10, 20), of(10, 20)) },
		"All of three": func() []api.Span { return span.All([]api.Span{of(6, 9), of(0, 5), of(1, 3)}) },
		"All of one":   func() []api.Span { return span.All([]api.Span{of(6, 9)}) },
		"All of none":  func() []api.Span { return span.All(nil) },
	}
	for name, call := range calls {
		first, second := call(), call()
		want := slices.Clone(second)
		spoil(first)
		if !slices.Equal(second, want) || !slices.Equal(call(), want) {
			t.Errorf("%s: a change of one result shows in another", name)
		}
		spare := second[:cap(second)]
		was := slices.Clone(spare)
		spoil(call())
		if !slices.Equal(spare, was) {
			t.Errorf("%s: two results share their spare memory", name)
		}
	}
}

// spoil writes over a slice and what is spare behind it.
func spoil(l []api.Span) {
	l = l[:cap(l)]
	for i := range l {
		l[i] = of(-99, -99)
	}
}
