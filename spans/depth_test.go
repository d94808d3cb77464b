package spans_test

import (
	"math/rand"
	"slices"
	"testing"

	"hostelry/api"
	"hostelry/spans"
)

// P3.2

// deepest gives the greatest depth that the chapter allows for so many spans.
func deepest(n int) int {
	if n <= 1 {
		return n
	}
	log := 0
	for n > 1 {
		n /= 2
		log++
	}
	return 2*log + 2
}

// expectDepth fails unless the set is as deep as one of so many spans may be.
func expectDepth(t *testing.T, s *spans.Set) {
	t.Helper()
	n, deep := len(s.All()), s.Deep()
	if deep > deepest(n) || deep < min(n, 1) {
		t.Fatalf("Deep is %d with %d spans", deep, n)
	}
}

func TestDepthOfFewSpans(t *testing.T) {
	s := spans.New()
	if s.Deep() != 0 {
		t.Errorf("Deep of an empty set is %d", s.Deep())
	}
	s.Add(of(5, 9))
	if s.Deep() != 1 {
		t.Errorf("Deep with one span is %d", s.Deep())
	}
	s.Add(of(9, 12)) // it touches, so there is still one
	if s.Deep() != 1 {
		t.Errorf("Deep with one span of two is %d", s.Deep())
	}
	s.Cut(of(7, 8))
	if s.Deep() != 2 {
		t.Errorf("Deep with two spans is %d", s.Deep())
	}
	s.Cut(of(5, 7))
	if s.Deep() != 1 {
		t.Errorf("Deep with one span left is %d", s.Deep())
	}
	s.Cut(of(0, api.MaxMinute))
	if s.Deep() != 0 {
		t.Errorf("Deep with all cut is %d", s.Deep())
	}
}

// orders are ways to go through 0 to n - 1.
func orders(n int) map[string][]int {
	ascending := make([]int, n)
	inward := make([]int, n)
	for i := range n {
		ascending[i] = i
		inward[i] = i / 2
		if i%2 == 1 {
			inward[i] = n - 1 - i/2
		}
	}
	descending, outward := slices.Clone(ascending), slices.Clone(inward)
	slices.Reverse(descending)
	slices.Reverse(outward)
	return map[string][]int{
		"ascending":  ascending,
		"descending": descending,
		"inward":     inward,
		"outward":    outward,
		"mixed":      rand.New(rand.NewSource(32)).Perm(n),
	}
}

func TestDepthAfterEachSpan(t *testing.T) {
	const n = 700
	for adding, order := range orders(n) {
		full := spans.New()
		for i, k := range order {
			full.Add(of(3*k, 3*k+2))
			expectDepth(t, full)
			if got := len(full.All()); got != i+1 {
				t.Fatalf("%s: %d spans, want %d", adding, got, i+1)
			}
		}
		for cutting, back := range orders(n) {
			s := full.Copy()
			for i, k := range back {
				s.Cut(of(3*k, 3*k+2))
				expectDepth(t, s)
				if got := len(s.All()); got != n-1-i {
					t.Fatalf("%s, cut %s: %d spans, want %d", adding, cutting, got, n-1-i)
				}
			}
		}
	}
}

func TestDepthWhenCutsMakeSpans(t *testing.T) {
	const n = 700
	for name, order := range orders(n) {
		s := spans.Of([]api.Span{of(0, 3*n)})
		for i, k := range order {
			s.Cut(of(3*k+1, 3*k+2))
			expectDepth(t, s)
			if got := len(s.All()); got != i+2 {
				t.Fatalf("%s: %d spans, want %d", name, got, i+2)
			}
		}
		for i, k := range order { // and the gaps are closed again
			s.Add(of(3*k+1, 3*k+2))
			expectDepth(t, s)
			if got := len(s.All()); got != n-i {
				t.Fatalf("%s: %d spans, want %d", name, got, n-i)
			}
		}
		expectAll(t, s, of(0, 3*n))
	}
}

func TestDepthOfMany(t *testing.T) {
	const n = 50000
	for name, order := range orders(n) {
		s := spans.New()
		for _, k := range order {
			s.Add(of(2*k, 2*k+1))
		}
		if got := len(s.All()); got != n || s.Long() != n {
			t.Fatalf("%s: %d spans with %d minutes", name, got, s.Long())
		}
		expectDepth(t, s)
		expectDepth(t, s.Copy())
		expectDepth(t, spans.Of(s.All()))
		for i, k := range order {
			if i%64 != 0 { // far fewer are left
				s.Cut(of(2*k, 2*k+1))
			}
		}
		expectDepth(t, s)
	}
}

func TestDepthAfterLongCutsAndAdds(t *testing.T) {
	const n = 4000
	r := rand.New(rand.NewSource(323))
	var all []api.Span
	for k := range n {
		all = append(all, of(3*k, 3*k+1))
	}
	for range 100 {
		s := spans.Of(all)
		for range 60 {
			from := r.Intn(3 * n)
			a := of(from, from+1+r.Intn(n/4))
			if r.Intn(3) == 0 {
				s.Add(a)
			} else {
				s.Cut(a)
			}
			expectDepth(t, s)
		}
	}
}
