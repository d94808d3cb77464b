package spans_test

import (
	"math"
	"math/bits"
	"math/rand"
	"slices"
	"testing"

	"hostelry/api"
	"hostelry/spans"
)

// The methods of the chapter, with their signatures.
var _ interface {
	Add(a api.Span)
	Cut(a api.Span)
	Has(a api.Span) bool
	Meets(a api.Span) bool
	Part(a api.Span) []api.Span
	Lack(a api.Span) []api.Span
	All() []api.Span
	Long() int
	Copy() *spans.Set
	Deep() int
} = spans.New()

// of is short for the literals of the tables.
func of(from, to int) api.Span {
	return api.Span{From: from, To: to}
}

// none are spans that are not valid.
func none() []api.Span {
	return []api.Span{
		{},
		of(5, 5),
		of(9, 5),
		of(1, 0),
		of(-1, 0),
		of(-1, 5),
		of(-5, -1),
		of(0, api.MaxMinute+1),
		of(api.MaxMinute, api.MaxMinute),
		of(api.MaxMinute, api.MaxMinute+1),
		of(api.MaxMinute-1, api.MaxMinute+1),
		of(api.MaxMinute+1, api.MaxMinute+2),
		of(api.MaxMinute, 0),
		of(math.MinInt, math.MaxInt),
		of(math.MinInt, math.MinInt),
		of(math.MinInt, 5),
		of(5, math.MinInt),
		of(0, math.MaxInt),
		of(math.MaxInt, 0),
		of(math.MaxInt, math.MinInt),
		of(math.MaxInt, math.MaxInt),
	}
}

// window are 64 minutes in a row from a first one on: a set of some of them is
// held as the bits of a number.
type window struct{ first int }

const wide = 64

// minutes tells by the words of layer 2 which minutes of the window a span has.
func (w window) minutes(a api.Span) uint64 {
	if a.From < 0 || a.From >= a.To || a.To > api.MaxMinute {
		return 0
	}
	var out uint64
	for i := range wide {
		if m := w.first + i; m >= a.From && m <= a.To-1 {
			out |= 1 << i
		}
	}
	return out
}

// spans gives the longest spans that have just these minutes, ascending.
func (w window) spans(set uint64) []api.Span {
	var out []api.Span
	for i := 0; i < wide; i++ {
		if set>>i&1 == 0 {
			continue
		}
		from := i
		for i < wide && set>>i&1 == 1 {
			i++
		}
		out = append(out, of(w.first+from, w.first+i))
	}
	return out
}

// expectSet fails unless the set has just the minutes that are wanted.
func (w window) expectSet(t *testing.T, s *spans.Set, want uint64, what ...any) {
	t.Helper()
	if got := s.All(); !slices.Equal(got, w.spans(want)) {
		t.Fatalf("%v: All is %v, want %v", what, got, w.spans(want))
	}
	if got := s.Long(); got != bits.OnesCount64(want) {
		t.Fatalf("%v: Long is %d, want %d", what, got, bits.OnesCount64(want))
	}
	expectDepth(t, s)
}

// expectAnswers fails unless the set, which has just the minutes of want, tells so of a span.
func (w window) expectAnswers(t *testing.T, s *spans.Set, want uint64, a api.Span) {
	t.Helper()
	asked := w.minutes(a)
	if got := s.Has(a); got != (asked&^want == 0) {
		t.Fatalf("%v: Has(%v) is %v", w.spans(want), a, got)
	}
	if got := s.Meets(a); got != (asked&want != 0) {
		t.Fatalf("%v: Meets(%v) is %v", w.spans(want), a, got)
	}
	if got := s.Part(a); !slices.Equal(got, w.spans(asked&want)) {
		t.Fatalf("%v: Part(%v) is %v", w.spans(want), a, got)
	}
	if got := s.Lack(a); !slices.Equal(got, w.spans(asked&^want)) {
		t.Fatalf("%v: Lack(%v) is %v", w.spans(want), a, got)
	}
}

// windows are the first minutes, some in the middle and the last ones.
func windows() []window {
	return []window{{0}, {api.Day * 366}, {api.MaxMinute - wide}}
}

// expectAll fails unless the set has just these spans.
func expectAll(t *testing.T, s *spans.Set, want ...api.Span) {
	t.Helper()
	if got := s.All(); !slices.Equal(got, want) {
		t.Fatalf("All is %v, want %v", got, want)
	}
	long := 0
	for _, a := range want {
		long += a.To - a.From
	}
	if got := s.Long(); got != long {
		t.Fatalf("Long of %v is %d, want %d", want, got, long)
	}
	expectDepth(t, s)
}

// P3.1

func TestAnEmptySet(t *testing.T) {
	empty := map[string]*spans.Set{
		"New":            spans.New(),
		"Of nil":         spans.Of(nil),
		"Of none":        spans.Of([]api.Span{}),
		"Of not valid":   spans.Of(none()),
		"Copy":           spans.New().Copy(),
		"all cut":        spans.Of([]api.Span{of(3, 7), of(9, 12)}),
		"cut to nothing": spans.Of([]api.Span{of(5, 9)}),
	}
	empty["all cut"].Cut(of(0, api.MaxMinute))
	empty["cut to nothing"].Cut(of(5, 7))
	empty["cut to nothing"].Cut(of(7, 9))
	for name, s := range empty {
		if len(s.All()) != 0 || s.Long() != 0 || s.Deep() != 0 {
			t.Errorf("%s: %v, Long %d, Deep %d", name, s.All(), s.Long(), s.Deep())
		}
		for _, a := range []api.Span{of(0, 1), of(5, 9), of(0, api.MaxMinute), of(api.MaxMinute-1, api.MaxMinute)} {
			s.Cut(a)
			if s.Has(a) || s.Meets(a) || len(s.Part(a)) != 0 || !slices.Equal(s.Lack(a), []api.Span{a}) {
				t.Errorf("%s: it has some of %v: %v, %v", name, a, s.Part(a), s.Lack(a))
			}
		}
		s.Add(of(5, 9))
		expectAll(t, s, of(5, 9))
	}
}

func TestOf(t *testing.T) {
	for _, c := range []struct{ l, want []api.Span }{
		{[]api.Span{of(5, 9)}, []api.Span{of(5, 9)}},
		{[]api.Span{of(5, 9), of(0, 5)}, []api.Span{of(0, 9)}}, // they only touch
		{[]api.Span{of(6, 9), of(0, 5)}, []api.Span{of(0, 5), of(6, 9)}},
		{[]api.Span{of(0, 20), of(3, 4), of(30, 31), of(19, 22)}, []api.Span{of(0, 22), of(30, 31)}},
		{[]api.Span{of(1, 2), of(1, 2), of(9, 3), of(-4, 8)}, []api.Span{of(1, 2)}},
		{[]api.Span{of(1, api.MaxMinute), of(0, 1)}, []api.Span{of(0, api.MaxMinute)}},
		{[]api.Span{of(8, 9), of(6, 7), of(4, 5), of(2, 3), of(0, 1)}, []api.Span{of(0, 1), of(2, 3), of(4, 5), of(6, 7), of(8, 9)}},
	} {
		expectAll(t, spans.Of(c.l), c.want...)
	}
}

func TestAdd(t *testing.T) {
	three := []api.Span{of(10, 20), of(30, 40), of(50, 60)}
	for _, c := range []struct {
		a    api.Span
		want []api.Span
	}{
		{of(0, 5), []api.Span{of(0, 5), of(10, 20), of(30, 40), of(50, 60)}},
		{of(70, 80), []api.Span{of(10, 20), of(30, 40), of(50, 60), of(70, 80)}},
		{of(22, 28), []api.Span{of(10, 20), of(22, 28), of(30, 40), of(50, 60)}},
		{of(21, 29), []api.Span{of(10, 20), of(21, 29), of(30, 40), of(50, 60)}},
		{of(20, 25), []api.Span{of(10, 25), of(30, 40), of(50, 60)}}, // they only touch
		{of(25, 30), []api.Span{of(10, 20), of(25, 40), of(50, 60)}},
		{of(20, 30), []api.Span{of(10, 40), of(50, 60)}}, // it closes a gap
		{of(20, 50), []api.Span{of(10, 60)}},
		{of(15, 55), []api.Span{of(10, 60)}},
		{of(5, 10), []api.Span{of(5, 20), of(30, 40), of(50, 60)}},
		{of(60, 65), []api.Span{of(10, 20), of(30, 40), of(50, 65)}},
		{of(30, 40), three},
		{of(33, 37), three},
		{of(30, 31), three},
		{of(39, 40), three},
		{of(29, 41), []api.Span{of(10, 20), of(29, 41), of(50, 60)}},
		{of(0, api.MaxMinute), []api.Span{of(0, api.MaxMinute)}},
	} {
		s := spans.Of(three)
		s.Add(c.a)
		expectAll(t, s, c.want...)
	}
}

func TestCut(t *testing.T) {
	three := []api.Span{of(10, 20), of(30, 40), of(50, 60)}
	for _, c := range []struct {
		a    api.Span
		want []api.Span
	}{
		{of(33, 37), []api.Span{of(10, 20), of(30, 33), of(37, 40), of(50, 60)}}, // in the middle
		{of(30, 35), []api.Span{of(10, 20), of(35, 40), of(50, 60)}},             // at an end
		{of(35, 40), []api.Span{of(10, 20), of(30, 35), of(50, 60)}},
		{of(30, 31), []api.Span{of(10, 20), of(31, 40), of(50, 60)}},
		{of(39, 40), []api.Span{of(10, 20), of(30, 39), of(50, 60)}},
		{of(30, 40), []api.Span{of(10, 20), of(50, 60)}},
		{of(20, 50), []api.Span{of(10, 20), of(50, 60)}}, // the others only touch
		{of(15, 55), []api.Span{of(10, 15), of(55, 60)}}, // over several
		{of(15, 35), []api.Span{of(10, 15), of(35, 40), of(50, 60)}},
		{of(10, 60), nil},
		{of(5, 45), []api.Span{of(50, 60)}},
		{of(25, 70), []api.Span{of(10, 20)}},
		{of(0, api.MaxMinute), nil},
		{of(20, 30), three}, // there is nothing
		{of(22, 28), three},
		{of(0, 10), three},
		{of(60, 70), three},
		{of(api.MaxMinute-1, api.MaxMinute), three},
	} {
		s := spans.Of(three)
		s.Cut(c.a)
		expectAll(t, s, c.want...)
	}
}

func TestHasAndMeets(t *testing.T) {
	s := spans.Of([]api.Span{of(10, 20), of(30, 40), of(50, 60)})
	for _, c := range []struct {
		a          api.Span
		has, meets bool
	}{
		{of(10, 20), true, true},
		{of(10, 11), true, true},
		{of(19, 20), true, true},
		{of(33, 37), true, true},
		{of(50, 60), true, true},
		{of(9, 20), false, true},
		{of(10, 21), false, true},
		{of(10, 40), false, true}, // both ends are in it, the middle is not
		{of(15, 55), false, true},
		{of(29, 31), false, true},
		{of(0, api.MaxMinute), false, true},
		{of(20, 30), false, false}, // it only touches
		{of(0, 10), false, false},
		{of(60, 70), false, false},
		{of(25, 26), false, false},
	} {
		if s.Has(c.a) != c.has || s.Meets(c.a) != c.meets {
			t.Errorf("%v: Has is %v, Meets is %v", c.a, s.Has(c.a), s.Meets(c.a))
		}
	}
}

func TestPartAndLack(t *testing.T) {
	s := spans.New()
	s.Add(of(0, 8))
	s.Add(of(22, 30))
	for _, c := range []struct {
		a          api.Span
		part, lack []api.Span
	}{
		{of(7, 23), []api.Span{of(7, 8), of(22, 23)}, []api.Span{of(8, 22)}},
		{of(0, 8), []api.Span{of(0, 8)}, nil},
		{of(3, 5), []api.Span{of(3, 5)}, nil},
		{of(8, 22), nil, []api.Span{of(8, 22)}}, // it only touches
		{of(8, 23), []api.Span{of(22, 23)}, []api.Span{of(8, 22)}},
		{of(7, 22), []api.Span{of(7, 8)}, []api.Span{of(8, 22)}},
		{of(10, 12), nil, []api.Span{of(10, 12)}},
		{of(30, 40), nil, []api.Span{of(30, 40)}},
		{of(25, 40), []api.Span{of(25, 30)}, []api.Span{of(30, 40)}},
		{of(0, api.MaxMinute), []api.Span{of(0, 8), of(22, 30)}, []api.Span{of(8, 22), of(30, api.MaxMinute)}},
	} {
		if got := s.Part(c.a); !slices.Equal(got, c.part) {
			t.Errorf("Part(%v) = %v, want %v", c.a, got, c.part)
		}
		if got := s.Lack(c.a); !slices.Equal(got, c.lack) {
			t.Errorf("Lack(%v) = %v, want %v", c.a, got, c.lack)
		}
	}
}

func TestTheExampleOfTwoSpansThatTouch(t *testing.T) {
	s := spans.New()
	s.Add(of(0, 5))
	s.Add(of(5, 9))
	expectAll(t, s, of(0, 9))
}

func TestTheEndsOfAllMinutes(t *testing.T) {
	last := of(api.MaxMinute-1, api.MaxMinute)
	s := spans.New()
	s.Add(of(0, api.MaxMinute))
	expectAll(t, s, of(0, api.MaxMinute))
	s.Cut(of(0, 1))
	s.Cut(last)
	expectAll(t, s, of(1, api.MaxMinute-1))
	if s.Has(of(0, 1)) || s.Meets(last) || s.Has(of(0, api.MaxMinute)) {
		t.Error("what was cut is still in the set")
	}
	if got := s.Lack(of(0, api.MaxMinute)); !slices.Equal(got, []api.Span{of(0, 1), last}) {
		t.Errorf("Lack = %v", got)
	}
	s.Add(last)
	expectAll(t, s, of(1, api.MaxMinute))
}

func TestASpanThatIsNotValidChangesNothing(t *testing.T) {
	for _, l := range [][]api.Span{
		nil,
		{of(5, 9)},
		{of(0, 5), of(6, 9), of(20, 30)},
		{of(0, api.MaxMinute)},
	} {
		s := spans.Of(l)
		for _, a := range none() {
			s.Add(a)
			expectAll(t, s, l...)
			s.Cut(a)
			expectAll(t, s, l...)
			if !s.Has(a) || s.Meets(a) {
				t.Errorf("%v: Has(%v) is %v, Meets is %v", l, a, s.Has(a), s.Meets(a))
			}
			if len(s.Part(a)) != 0 || len(s.Lack(a)) != 0 {
				t.Errorf("%v: Part(%v) is %v, Lack is %v", l, a, s.Part(a), s.Lack(a))
			}
		}
	}
}

func TestCopiesAreChangedApart(t *testing.T) {
	first := spans.Of([]api.Span{of(0, 5), of(10, 15), of(20, 25), of(30, 35)})
	second := first.Copy()
	expectAll(t, second, of(0, 5), of(10, 15), of(20, 25), of(30, 35))
	if first.Deep() != second.Deep() {
		t.Errorf("a copy has depth %d, its set %d", second.Deep(), first.Deep())
	}
	second.Cut(of(12, 22))
	third := second.Copy()
	first.Add(of(5, 10))
	third.Add(of(34, 40))
	second.Add(of(50, 51))
	expectAll(t, first, of(0, 15), of(20, 25), of(30, 35))
	expectAll(t, second, of(0, 5), of(10, 12), of(22, 25), of(30, 35), of(50, 51))
	expectAll(t, third, of(0, 5), of(10, 12), of(22, 25), of(30, 40))
	first.Cut(of(0, api.MaxMinute))
	expectAll(t, first)
	expectAll(t, third, of(0, 5), of(10, 12), of(22, 25), of(30, 40))
}

func TestManyCopiesAreChangedApart(t *testing.T) {
	r := rand.New(rand.NewSource(31))
	w := window{0}
	sets, held := []*spans.Set{spans.New()}, []uint64{0}
	for range 4000 {
		i := r.Intn(len(sets))
		if len(sets) < 40 {
			sets, held = append(sets, sets[i].Copy()), append(held, held[i])
		}
		a := of(r.Intn(wide), r.Intn(wide+1))
		if r.Intn(2) == 0 {
			sets[i].Add(a)
			held[i] |= w.minutes(a)
		} else {
			sets[i].Cut(a)
			held[i] &^= w.minutes(a)
		}
		for k := range sets {
			w.expectSet(t, sets[k], held[k], "set", k, "after", a, "in set", i)
		}
	}
}

func TestSetsAreApart(t *testing.T) {
	a, b := spans.New(), spans.New()
	a.Add(of(5, 9))
	expectAll(t, b)
	l := []api.Span{of(0, 5), of(6, 9)}
	c, d := spans.Of(l), spans.Of(l)
	c.Cut(of(0, 9))
	expectAll(t, c)
	expectAll(t, d, l...)
}

// P3.3

func TestEachSmallSet(t *testing.T) {
	const few = 7
	for _, w := range windows() {
		at := 0
		if w.first+wide == api.MaxMinute {
			at = wide - few // so that the last minute of all is among them
		}
		var around []api.Span
		for from := at - 2; from <= at+few+2; from++ {
			for to := at - 2; to <= at+few+2; to++ {
				// Other minutes of the middle are not in the window.
				if a := of(w.first+from, w.first+to); from >= 0 || w.first == 0 {
					around = append(around, a)
				}
			}
		}
		for held := range uint64(1 << few) {
			held <<= at
			s := spans.Of(w.spans(held))
			w.expectSet(t, s, held, "Of")
			for _, a := range around {
				w.expectAnswers(t, s, held, a)
				added, cut := s.Copy(), s.Copy()
				added.Add(a)
				w.expectSet(t, added, held|w.minutes(a), w.spans(held), "Add", a)
				cut.Cut(a)
				w.expectSet(t, cut, held&^w.minutes(a), w.spans(held), "Cut", a)
				w.expectSet(t, s, held, w.spans(held), "after", a)
			}
		}
	}
}

func TestManySteps(t *testing.T) {
	for i, w := range windows() {
		r := rand.New(rand.NewSource(int64(i)))
		s, held := spans.New(), uint64(0)
		for step := range 30000 {
			from := r.Intn(wide + 1)
			a := of(w.first+from, w.first+r.Intn(wide+1))
			if r.Intn(3) > 0 {
				a.To = min(a.From+r.Intn(4), w.first+wide) // short ones keep many spans in the set
			}
			if r.Intn(2) == 0 {
				s.Add(a)
				held |= w.minutes(a)
			} else {
				s.Cut(a)
				held &^= w.minutes(a)
			}
			w.expectSet(t, s, held, "step", step, a)
			w.expectAnswers(t, s, held, of(w.first+r.Intn(wide+1), w.first+r.Intn(wide+1)))
		}
	}
}

func TestTheWayToASetDoesNotShow(t *testing.T) {
	r := rand.New(rand.NewSource(3))
	w := window{0}
	for range 300 {
		held := r.Uint64() & r.Uint64()
		single := spans.New()
		for _, i := range r.Perm(wide) {
			if held>>i&1 == 1 {
				single.Add(of(i, i+1))
			}
		}
		rest := spans.Of([]api.Span{of(0, wide)})
		for _, i := range r.Perm(wide) {
			if held>>i&1 == 0 {
				rest.Cut(of(i, i+1))
			}
		}
		w.expectSet(t, spans.Of(w.spans(held)), held, "Of")
		w.expectSet(t, single, held, "minute by minute")
		w.expectSet(t, rest, held, "cut from all")
	}
}

func TestAddAndCutUndoEachOther(t *testing.T) {
	w := window{0}
	r := rand.New(rand.NewSource(33))
	for range 2000 {
		held := r.Uint64() | r.Uint64()
		a := of(r.Intn(wide), r.Intn(wide+1))
		s := spans.Of(w.spans(held))
		part, lack := s.Part(a), s.Lack(a)
		s.Cut(a)
		for _, b := range part {
			s.Add(b)
		}
		w.expectSet(t, s, held, "after Cut and Add of", a)
		s.Add(a)
		for _, b := range lack {
			s.Cut(b)
		}
		w.expectSet(t, s, held, "after Add and Cut of", a)
	}
}

// The rules of DOC.md.

func TestOfLeavesItsArgument(t *testing.T) {
	for _, l := range [][]api.Span{
		{of(6, 9), of(0, 5), of(9, 5), of(20, 30), of(4, 7)},
		{of(0, 5), of(6, 9)}, // nothing to sort
		{of(5, 9)},
		{},
	} {
		row := append(slices.Clone(l), of(100, 200), of(-7, -7), of(0, 3)) // the last ones are spare
		was := slices.Clone(row)
		s := spans.Of(row[:len(l)])
		all := s.All()
		s.Add(of(40, 50))
		s.Cut(of(2, 25))
		if !slices.Equal(row, was) {
			t.Errorf("Of %v left %v", was, row)
		}
		other := spans.Of(row[:len(l)])
		spoil(row)
		if got := other.All(); !slices.Equal(got, all) {
			t.Errorf("the set is %v after a change of what it was made of, and was %v", got, all)
		}
	}
}

func TestResultsHaveMemoryOfTheirOwn(t *testing.T) {
	s := spans.Of([]api.Span{of(0, 5), of(10, 15), of(20, 25), of(30, 35), of(40, 45)})
	want := s.All()
	for name, call := range map[string]func() []api.Span{
		"All":          s.All,
		"Part":         func() []api.Span { return s.Part(of(3, 33)) },
		"Part of one":  func() []api.Span { return s.Part(of(11, 12)) },
		"Lack":         func() []api.Span { return s.Lack(of(3, 33)) },
		"Lack of one":  func() []api.Span { return s.Lack(of(6, 7)) },
		"Lack of none": func() []api.Span { return s.Lack(of(10, 15)) },
	} {
		first, second := call(), call()
		was := slices.Clone(second)
		spoil(first)
		if !slices.Equal(second, was) || !slices.Equal(call(), was) {
			t.Errorf("%s: a change of one result shows in another", name)
		}
		spare := second[:cap(second)]
		was = slices.Clone(spare)
		spoil(call())
		if !slices.Equal(spare, was) {
			t.Errorf("%s: two results share their spare memory", name)
		}
		expectAll(t, s, want...)
	}
}

func TestResultsStayWhenTheSetIsChanged(t *testing.T) {
	s := spans.Of([]api.Span{of(0, 5), of(10, 15), of(20, 25)})
	all, part, lack := s.All(), s.Part(of(3, 22)), s.Lack(of(3, 22))
	s.Add(of(5, 12))
	s.Cut(of(2, 22))
	for _, c := range []struct{ got, want []api.Span }{
		{all, []api.Span{of(0, 5), of(10, 15), of(20, 25)}},
		{part, []api.Span{of(3, 5), of(10, 15), of(20, 22)}},
		{lack, []api.Span{of(5, 10), of(15, 20)}},
	} {
		if !slices.Equal(c.got, c.want) {
			t.Errorf("an earlier result is now %v, want %v", c.got, c.want)
		}
	}
}

func TestAskingChangesNothing(t *testing.T) {
	s := spans.Of([]api.Span{of(0, 5), of(10, 15), of(20, 25)})
	deep := s.Deep()
	for _, a := range append(none(), of(0, 5), of(3, 22), of(0, api.MaxMinute)) {
		s.Has(a)
		s.Meets(a)
		s.Part(a)
		s.Lack(a)
		s.Copy()
	}
	expectAll(t, s, of(0, 5), of(10, 15), of(20, 25))
	if s.Deep() != deep {
		t.Errorf("Deep is %d and was %d", s.Deep(), deep)
	}
}

// spoil writes over a slice and what is spare behind it.
func spoil(l []api.Span) {
	l = l[:cap(l)]
	for i := range l {
		l[i] = of(-99, -99)
	}
}
