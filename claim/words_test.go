package claim_test

import (
	"math"
	"math/rand"
	"slices"
	"testing"

	"hostelry/api"
	"hostelry/claim"
)

// P12.1, held against the words of the chapter

// small are all lists of up to two claims in a few minutes of two rooms.
func small(rooms ...int) [][]api.Claim {
	var few []api.Claim
	for _, room := range rooms {
		for from := range 4 {
			for to := from + 1; to <= 4; to++ {
				few = append(few, of(room, from, to))
			}
		}
	}
	out := [][]api.Claim{nil}
	for _, a := range few {
		out = append(out, list(a))
		for _, b := range few {
			out = append(out, list(a, b))
		}
	}
	return out
}

func TestAllSmallLists(t *testing.T) {
	for _, l := range small(0, 7) {
		check(t, l)
	}
	for _, a := range small(3) {
		for _, b := range small(3) {
			checkBoth(t, a, b)
			if t.Failed() {
				return
			}
		}
	}
}

func TestManyLists(t *testing.T) {
	rnd := rand.New(rand.NewSource(12))
	for range 20000 {
		room := []int{-1, 0, 2, 5, 6}[rnd.Intn(5)]
		minute := []int{-2, 0, 600, api.MaxMinute - 9}[rnd.Intn(4)]
		a, b := some(rnd, 7, room, minute), some(rnd, 7, room, minute)
		check(t, a)
		checkBoth(t, a, b)
		if t.Failed() {
			return
		}
	}
}

func TestListsOfAllSizes(t *testing.T) {
	rnd := rand.New(rand.NewSource(121))
	for range 300 {
		var lists [2][]api.Claim
		for i := range lists {
			for range rnd.Intn(60) {
				first := rnd.Intn(api.MaxMinute)
				lists[i] = append(lists[i], of(rnd.Intn(api.MaxRoom), first, first+rnd.Intn(api.MaxMinute/20)))
			}
		}
		check(t, lists[0])
		checkBoth(t, lists[0], lists[1])
		if t.Failed() {
			return
		}
	}
}

func TestLongLists(t *testing.T) {
	const n = 200000
	even, odd := make([]api.Claim, n), make([]api.Claim, n)
	for i := range n {
		k := (i*7919 + 13) % n // each number once, far from ascending
		even[i], odd[i] = of(5, 2*k, 2*k+1), of(5, 2*k+1, 2*k+2)
	}
	whole := list(of(5, 0, 2*n))
	expect(t, "Neat", claim.Neat(joined(even, odd)), whole)
	expect(t, "Meet", claim.Meet(even, odd), nil)
	for _, c := range [][2][]api.Claim{{even, odd}, {odd, even}} {
		want := turned(c[0])
		slices.SortFunc(want, func(a, b api.Claim) int { return a.Span.From - b.Span.From })
		for _, got := range [][]api.Claim{claim.Neat(c[0]), claim.Minus(c[0], c[1]), claim.Minus(whole, c[1]), claim.Meet(whole, c[0]), claim.Minus(all()[5:6], joined(c[1], list(of(5, 2*n, api.MaxMinute))))} {
			if !slices.Equal(got, want) {
				t.Fatalf("%d claims, not %d", len(got), n)
			}
		}
		if got := claim.Long(c[0]); got != n {
			t.Errorf("Long = %d", got)
		}
		if !claim.Same(c[0], want) || claim.Same(c[0], c[1]) {
			t.Error("Same is wrong")
		}
	}
}

// The rules of DOC.md.

func spoil(l []api.Claim) {
	l = l[:cap(l)]
	for i := range l {
		l[i] = of(math.MaxInt, -99, -99)
	}
}

// calls are those that answer a list, for arguments of which the second is not always used.
func calls() map[string]func(a, b []api.Claim) []api.Claim {
	return map[string]func(a, b []api.Claim) []api.Claim{
		"Neat":  func(a, b []api.Claim) []api.Claim { return claim.Neat(a) },
		"Meet":  claim.Meet,
		"Minus": claim.Minus,
	}
}

// pairs are arguments of the calls: neat ones, ones that are not, and such as come out whole.
func pairs() [][2][]api.Claim {
	a := list(of(3, 10, 20), of(3, 30, 40), of(5, 0, 9))
	return [][2][]api.Claim{
		{nil, nil}, {a, nil}, {nil, a}, {a, a}, {a, all()}, {all(), a}, {turned(a), turned(a)},
		{a, list(of(3, 12, 15), of(5, 0, 9))},
		{list(of(3, 10, 20)), list(of(3, 5, 25))}, {list(of(3, 10, 20)), list(of(4, 5, 25))},
		{joined(turned(a), none(), a), joined(none(), turned(all()), list(of(0, 5, 5)))},
	}
}

func TestArgumentsStayAsTheyWere(t *testing.T) {
	behind := list(of(0, 5, 9), of(-7, 1, 0), of(3, 0, 3))
	for _, p := range pairs() {
		a, b := append(slices.Clone(p[0]), behind...), append(slices.Clone(p[1]), behind...)
		wasA, wasB := slices.Clone(a), slices.Clone(b)
		shortA, shortB := a[:len(p[0])], b[:len(p[1])]
		for name, call := range calls() {
			spoil(call(shortA, shortB))
			if !slices.Equal(a, wasA) || !slices.Equal(b, wasB) {
				t.Fatalf("%s of %v changed %v", name, p, append(a, b...))
			}
		}
		claim.Same(shortA, shortB)
		claim.Long(shortA)
		if !slices.Equal(a, wasA) || !slices.Equal(b, wasB) {
			t.Fatalf("Same or Long of %v changed %v", p, append(a, b...))
		}
	}
}

func TestResultsAreNew(t *testing.T) {
	for _, p := range pairs() {
		for name, call := range calls() {
			a, b := slices.Clone(p[0]), slices.Clone(p[1])
			first, second := call(a, b), call(a, b)
			want := slices.Clone(second)
			spare := slices.Clone(second[:cap(second)])
			spoil(a)
			spoil(b)
			spoil(first)
			if !slices.Equal(second, want) || !slices.Equal(second[:cap(second)], spare) {
				t.Errorf("%s of %v shares memory", name, p)
			}
			if got := call(p[0], p[1]); !slices.Equal(got, want) {
				t.Errorf("%s of %v = %v after a change of an earlier result", name, p, got)
			}
		}
	}
}
