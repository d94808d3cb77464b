package claim_test

import (
	"math"
	"slices"
	"testing"

	"hostelry/api"
	"hostelry/claim"
)

// P12.1: Is and Less

func TestIs(t *testing.T) {
	for room := range api.MaxRoom {
		for _, s := range someSpans() {
			if c := (api.Claim{Room: room, Span: s}); !claim.Is(c) {
				t.Errorf("Is(%v) = false", c)
			}
		}
		for _, s := range noSpans() {
			if c := (api.Claim{Room: room, Span: s}); claim.Is(c) {
				t.Errorf("Is(%v) = true", c)
			}
		}
	}
	for _, room := range noRooms() {
		for _, s := range append(someSpans(), noSpans()...) {
			if c := (api.Claim{Room: room, Span: s}); claim.Is(c) {
				t.Errorf("Is(%v) = true", c)
			}
		}
	}
	for _, c := range none() {
		if claim.Is(c) {
			t.Errorf("Is(%v) = true", c)
		}
	}
}

func TestIsAtTheEdgesOfRooms(t *testing.T) {
	for room, want := range map[int]bool{math.MinInt: false, -1: false, 0: true, 7: true, 8: false, math.MaxInt: false} {
		if got := claim.Is(of(room, 5, 9)); got != want {
			t.Errorf("Is in room %d = %v", room, got)
		}
	}
}

func expectLess(t *testing.T, a, b api.Claim) {
	t.Helper()
	if !claim.Less(a, b) {
		t.Errorf("Less(%v, %v) = false", a, b)
	}
	if claim.Less(b, a) {
		t.Errorf("Less(%v, %v) = true", b, a)
	}
}

func TestLess(t *testing.T) {
	// By one of the three alone.
	expectLess(t, of(2, 5, 9), of(3, 5, 9))
	expectLess(t, of(2, 5, 9), of(2, 6, 9))
	expectLess(t, of(2, 5, 9), of(2, 5, 10))
	// An earlier one of the three outweighs the later ones.
	expectLess(t, of(2, 50, 90), of(3, 5, 9))
	expectLess(t, of(2, 5, 90), of(3, 5, 9))
	expectLess(t, of(2, 50, 60), of(3, 5, 60))
	expectLess(t, of(2, 5, 90), of(2, 6, 9))
	expectLess(t, of(0, 0, api.MaxMinute), of(0, 1, 2))
	expectLess(t, of(0, lastMinute, api.MaxMinute), of(api.MaxRoom-1, 0, 1))
}

func TestLessOfClaimsThatAreNotValid(t *testing.T) {
	expectLess(t, of(-1, 5, 9), of(0, 5, 9))
	expectLess(t, of(7, 5, 9), of(8, 5, 9))
	expectLess(t, of(-1, 5, 9), of(8, 5, 9))
	expectLess(t, of(0, -1, 9), of(0, 5, 9))
	expectLess(t, of(0, -1, 9), of(0, 0, 9))
	expectLess(t, of(0, 9, 5), of(0, 9, 9))
	expectLess(t, of(0, 9, 5), of(0, 9, 10))
	expectLess(t, of(0, 9, 5), of(0, 10, 5))
	expectLess(t, of(0, 0, api.MaxMinute), of(0, 0, api.MaxMinute+1))
	expectLess(t, of(0, 0, 0), of(0, 0, 1))
	// The difference of these is no int.
	expectLess(t, of(math.MinInt, 5, 9), of(math.MaxInt, 5, 9))
	expectLess(t, of(-2, 5, 9), of(math.MaxInt, 5, 9))
	expectLess(t, of(math.MinInt, 5, 9), of(1, 5, 9))
	expectLess(t, of(0, math.MinInt, 9), of(0, math.MaxInt, 9))
	expectLess(t, of(0, 5, math.MinInt), of(0, 5, math.MaxInt))
}

func TestLessOfEachTwo(t *testing.T) {
	var l []api.Claim // ascending, as it is made
	numbers := []int{math.MinInt, -1, 0, 1, 7, 8, api.MaxMinute, math.MaxInt}
	for _, room := range numbers {
		for _, from := range numbers {
			for _, to := range numbers {
				l = append(l, of(room, from, to))
			}
		}
	}
	for i, a := range l {
		for j, b := range l {
			if got := claim.Less(a, b); got != (i < j) {
				t.Fatalf("Less(%v, %v) = %v", a, b, got)
			}
		}
	}
}

func TestNeatIsAscending(t *testing.T) {
	l := claim.Neat(joined(turned(all()), list(of(3, 5, 9), of(8, 0, 1), of(0, 9, 5))))
	l = joined(l, claim.Neat(claim.Minus(all(), list(of(0, 5, 9), of(0, 20, 30), of(7, 0, 5), of(7, 90, api.MaxMinute)))))
	for _, part := range [][]api.Claim{l[:api.MaxRoom], l[api.MaxRoom:]} {
		for i := 1; i < len(part); i++ {
			if !claim.Less(part[i-1], part[i]) {
				t.Errorf("%v is not before %v", part[i-1], part[i])
			}
		}
	}
	if len(l) != 2*api.MaxRoom+2 || !slices.Equal(l[:api.MaxRoom], all()) {
		t.Errorf("%v", l)
	}
}
