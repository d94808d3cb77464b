package spans

import (
	"math/rand"
	"testing"

	"hostelry/api"
	"hostelry/span"
)

// expectSound fails unless each node is between its sides, is as deep as it
// says and has sides whose depths differ by at most one. It tells the depth.
func expectSound(t *testing.T, n *node, low, high int) int {
	t.Helper()
	if n == nil {
		return 0
	}
	if !span.Is(n.span) || n.span.From <= low || n.span.To >= high {
		t.Fatalf("%v is not apart from its neighbours within %d and %d", n.span, low, high)
	}
	left := expectSound(t, n.left, low, n.span.From)
	right := expectSound(t, n.right, n.span.To, high)
	if left > right+1 || right > left+1 || n.depth != 1+max(left, right) {
		t.Fatalf("%v has depth %d over %d and %d", n.span, n.depth, left, right)
	}
	return n.depth
}

func expectSoundSet(t *testing.T, s *Set) {
	t.Helper()
	if got := expectSound(t, s.root, -1, api.MaxMinute+1); got != s.Deep() {
		t.Fatalf("Deep is %d, the tree has depth %d", s.Deep(), got)
	}
}

func TestTheTreeIsSound(t *testing.T) {
	r := rand.New(rand.NewSource(34))
	for _, minutes := range []int{12, 60, 400, 3000} {
		s := New()
		for step := range 4000 {
			from := r.Intn(minutes)
			long := 1 + r.Intn(3)
			if r.Intn(40) == 0 {
				long += r.Intn(minutes / 2)
			}
			a := api.Span{From: from, To: from + long}
			if (step/500+r.Intn(4))%2 == 0 { // by turns more is added and more is cut
				s.Add(a)
			} else {
				s.Cut(a)
			}
			expectSoundSet(t, s)
		}
		expectSoundSet(t, Of(s.All()))
	}
}

func TestTheTreeOfARowIsSound(t *testing.T) {
	var l []api.Span
	for k := range 600 {
		expectSoundSet(t, Of(l))
		l = append(l, api.Span{From: 2*k + 1, To: 2*k + 2})
	}
}

func TestTreesOfAnyDepthsAreJoined(t *testing.T) {
	const most = 70
	row := func(from, n int) []api.Span {
		var l []api.Span
		for k := range n {
			l = append(l, api.Span{From: from + 2*k, To: from + 2*k + 1})
		}
		return l
	}
	for n := range most {
		for m := range most {
			left, right := grow(row(0, n)), grow(row(2*n+2, m))
			deeper := max(left.deep(), right.deep())
			joined := &Set{tree{join(left, api.Span{From: 2 * n, To: 2*n + 1}, right)}}
			expectSoundSet(t, joined)
			if d := joined.Deep(); d < deeper || d > deeper+1 || len(joined.All()) != n+1+m {
				t.Fatalf("%d and %d joined: depth %d, %d spans", n, m, d, len(joined.All()))
			}
			both := &Set{tree{concat(left, right)}}
			expectSoundSet(t, both)
			if len(both.All()) != n+m {
				t.Fatalf("%d and %d: %d spans", n, m, len(both.All()))
			}
		}
	}
}
