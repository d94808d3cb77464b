package slate_test

import (
	"math"
	"strings"
	"testing"

	"hostelry/api"
	"hostelry/slate"
)

// kind is a slate, and what it has.
type kind struct {
	make func() *slate.Slate
	text string
	on   bool
	left int // how many bytes the power lasts for, below 0: endless
}

func kinds(t *testing.T) []kind {
	var out []kind
	for _, was := range append(before(), strings.Repeat("many\n", 1000)) {
		out = append(out,
			kind{func() *slate.Slate { return slate.Of(was) }, was, true, -1},
			kind{func() *slate.Slate { return off(t, was) }, was, false, 0},
		)
		for _, limit := range []int{0, 1, 5, 6, 100} {
			out = append(out, kind{func() *slate.Slate {
				s := slate.Of(was)
				s.Limit(limit)
				return s
			}, was, true, limit})
			out = append(out, kind{func() *slate.Slate {
				s := slate.Of(was)
				s.Limit(limit + 4)
				expectWrite(t, s, list("b", "c"), api.OK)
				return s
			}, was + "b\nc\n", true, limit})
			out = append(out, kind{func() *slate.Slate {
				s := slate.Of(was)
				s.Limit(limit)
				s.Rise()
				return s
			}, wholeOf(was), true, -1})
		}
		out = append(out, kind{func() *slate.Slate {
			s := slate.Of(was)
			s.Limit(3)
			expectWrite(t, s, list("b", "c"), api.ErrPower)
			return s
		}, was + "b\nc", false, 0})
	}
	return out
}

// P16.1: Copy

// expectKind fails unless a slate is of this kind by all that it does next.
func expectKind(t *testing.T, s *slate.Slate, k kind) {
	t.Helper()
	expect(t, s, k.text, k.on)
	switch {
	case !k.on:
		expectWrite(t, s, nil, api.ErrPower)
		expectWrite(t, s, list("a\n"), api.ErrPower)
		expect(t, s, k.text, false)
		s.Rise()
		expect(t, s, wholeOf(k.text), true)
		expectEndless(t, s)
	case k.left < 0:
		expectEndless(t, s)
	default:
		expectLimit(t, s, k.left)
	}
}

func TestCopyIsEqual(t *testing.T) {
	for _, k := range kinds(t) {
		s := k.make()
		expectKind(t, s.Copy(), k)
		expectKind(t, s.Copy().Copy(), k)
		expectKind(t, s, k)
	}
}

// changes are all that can be done to a slate.
func changes() []func(s *slate.Slate) {
	return []func(s *slate.Slate){
		func(s *slate.Slate) { s.Write(list("changed", "", "by this")) },
		func(s *slate.Slate) { s.Write(list(strings.Repeat("changed", 5000))) },
		func(s *slate.Slate) { s.Write(nil) },
		func(s *slate.Slate) { s.Write(list("no\nline")) },
		func(s *slate.Slate) { s.Limit(0); s.Write(list("x")) },
		func(s *slate.Slate) { s.Limit(2); s.Write(list("xyz")) },
		func(s *slate.Slate) { s.Limit(3) },
		func(s *slate.Slate) { s.Limit(math.MaxInt) },
		func(s *slate.Slate) { s.Rise() },
		func(s *slate.Slate) { s.Rise(); s.Write(list("written over what was torn")) },
		func(s *slate.Slate) { s.Rise(); s.Limit(1); s.Write(list("xyz")) },
		func(s *slate.Slate) { s.Copy().Write(list("x")); s.Copy().Rise() },
	}
}

func TestCopyAndSlateTellNothingOfEachOther(t *testing.T) {
	for _, k := range kinds(t) {
		for _, change := range changes() {
			s := k.make()
			change(s.Copy())
			expectKind(t, s, k)
			s = k.make()
			other := s.Copy()
			change(s)
			expectKind(t, other, k)
			s = k.make()
			other = s.Copy()
			third := other.Copy()
			change(other)
			change(other)
			change(s)
			expectKind(t, third, k)
		}
		if t.Failed() {
			return
		}
	}
}

// Two copies of one slate write behind the same bytes.
func TestCopiesOfOneSlateWriteApart(t *testing.T) {
	for _, was := range before() {
		s := slate.New()
		for range 10 { // so that there is room behind the bytes
			expectWrite(t, s, list("line"), api.OK)
		}
		lines := s.Text()
		s = slate.Of(lines + was)
		a, b := s.Copy(), s.Copy()
		expectWrite(t, a, list("a"), api.OK)
		expectWrite(t, b, list("b"), api.OK)
		expectWrite(t, s, list("s"), api.OK)
		expect(t, a, lines+was+"a\n", true)
		expect(t, b, lines+was+"b\n", true)
		expect(t, s, lines+was+"s\n", true)
	}
}

func TestCopiesAfterManyWrites(t *testing.T) {
	s := slate.New()
	var copies []*slate.Slate
	want := list("")
	for i := range 200 {
		expectWrite(t, s, list(strings.Repeat("x", i%7)), api.OK)
		copies = append(copies, s.Copy())
		want = append(want, want[i]+strings.Repeat("x", i%7)+"\n")
	}
	for i, c := range copies {
		expectWrite(t, c, list("own"), api.OK)
		expect(t, c, want[i+1]+"own\n", true)
	}
	expect(t, s, want[200], true)
}
