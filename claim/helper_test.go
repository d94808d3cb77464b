package claim_test

import (
	"math"
	"math/rand"
	"slices"
	"testing"

	"hostelry/api"
	"hostelry/claim"
	"hostelry/rule"
)

const lastMinute = api.MaxMinute - 1

// of is short for the literals of the tables.
func of(room, from, to int) api.Claim {
	return api.Claim{Room: room, Span: api.Span{From: from, To: to}}
}

// list is short for the literals of the tables.
func list(l ...api.Claim) []api.Claim {
	return l
}

// joined gives the lists as one, in new memory.
func joined(lists ...[]api.Claim) []api.Claim {
	return slices.Concat(lists...)
}

// turned gives the list from its end on, in new memory.
func turned(l []api.Claim) []api.Claim {
	out := slices.Clone(l)
	slices.Reverse(out)
	return out
}

// all are the claims to each room for good.
func all() []api.Claim {
	var out []api.Claim
	for room := range api.MaxRoom {
		out = append(out, of(room, 0, api.MaxMinute))
	}
	return out
}

// noSpans are spans that are not valid.
func noSpans() []api.Span {
	return []api.Span{
		{},
		{From: 5, To: 5},
		{From: 9, To: 5},
		{From: 1, To: 0},
		{From: -1, To: 0},
		{From: -1, To: 5},
		{From: -1, To: api.MaxMinute},
		{From: -9, To: -5},
		{From: 0, To: api.MaxMinute + 1},
		{From: lastMinute, To: api.MaxMinute + 1},
		{From: api.MaxMinute, To: api.MaxMinute},
		{From: api.MaxMinute, To: api.MaxMinute + 1},
		{From: api.MaxMinute, To: 0},
		{From: math.MinInt, To: math.MaxInt},
		{From: math.MaxInt, To: math.MinInt},
		{From: math.MinInt, To: 5},
		{From: 5, To: math.MinInt},
		{From: 0, To: math.MaxInt},
		{From: math.MinInt, To: math.MinInt},
		{From: math.MaxInt, To: math.MaxInt},
	}
}

// someSpans are valid spans, at both ends of all minutes, and all of them.
func someSpans() []api.Span {
	return []api.Span{
		{From: 0, To: 1},
		{From: 5, To: 9},
		{From: 0, To: api.MaxMinute},
		{From: 1, To: api.MaxMinute},
		{From: 0, To: lastMinute},
		{From: lastMinute, To: api.MaxMinute},
	}
}

// noRooms are numbers that no room has.
func noRooms() []int {
	return []int{math.MinInt, math.MinInt32, -api.MaxRoom, -2, -1, api.MaxRoom, api.MaxRoom + 1, 2 * api.MaxRoom, 1 << 32, math.MaxInt32, math.MaxInt}
}

// none are claims that are not valid: by their room, by their span, or by both.
func none() []api.Claim {
	var out []api.Claim
	for _, s := range noSpans() {
		for _, room := range []int{-1, 0, 3, api.MaxRoom - 1, api.MaxRoom} {
			out = append(out, api.Claim{Room: room, Span: s})
		}
	}
	for _, room := range noRooms() {
		for _, s := range someSpans() {
			out = append(out, api.Claim{Room: room, Span: s})
		}
	}
	return out
}

// among gives the claims of l with those of none between, before and behind them.
func among(l []api.Claim) []api.Claim {
	others := none()
	var out []api.Claim
	for i, c := range others {
		out = append(out, c)
		if i < len(l) {
			out = append(out, l[i])
		}
	}
	return append(out, l[min(len(l), len(others)):]...)
}

// has tells by the words of the chapter whether a list has a room minute.
func has(l []api.Claim, room, m int) bool {
	return slices.ContainsFunc(l, func(c api.Claim) bool {
		valid := c.Room >= 0 && c.Room <= api.MaxRoom-1 && c.Span.From >= 0 && c.Span.From < c.Span.To && c.Span.To <= api.MaxMinute
		return valid && c.Room == room && c.Span.From <= m && m <= c.Span.To-1
	})
}

// edges gives the minutes at which a claim can begin or end that is made of
// these: between two of them a room minute is as the one before.
func edges(lists ...[]api.Claim) []int {
	out := []int{0}
	for _, c := range joined(lists...) {
		for _, m := range []int{c.Span.From, c.Span.To} {
			if m >= 0 && m < api.MaxMinute {
				out = append(out, m)
			}
		}
	}
	slices.Sort(out)
	return slices.Compact(out)
}

// neatByWords gives the unique form of the room minutes that in has, which
// change nowhere but at the edges of the lists.
func neatByWords(in func(room, m int) bool, lists ...[]api.Claim) []api.Claim {
	at := edges(lists...)
	var out []api.Claim
	for room := range api.MaxRoom {
		was := false
		for _, m := range at {
			is := in(room, m)
			if is && !was {
				out = append(out, of(room, m, api.MaxMinute))
			} else if was && !is {
				out[len(out)-1].Span.To = m
			}
			was = is
		}
	}
	return out
}

// longByWords counts the room minutes of a list.
func longByWords(l []api.Claim) int {
	at := append(edges(l), api.MaxMinute)
	sum := 0
	for room := range api.MaxRoom {
		for i, m := range at[:len(at)-1] {
			if has(l, room, m) {
				sum += at[i+1] - m
			}
		}
	}
	return sum
}

func expect(t *testing.T, name string, got, want []api.Claim, lists ...[]api.Claim) {
	t.Helper()
	if !slices.Equal(got, want) {
		t.Errorf("%s of %v = %v, want %v", name, lists, got, want)
	}
}

// check holds every call on one list against the words of the chapter.
func check(t *testing.T, l []api.Claim) {
	t.Helper()
	inList := func(room, m int) bool { return has(l, room, m) }
	expect(t, "Neat", claim.Neat(l), neatByWords(inList, l), l)
	if got, want := claim.Long(l), longByWords(l); got != want {
		t.Errorf("Long(%v) = %d, want %d", l, got, want)
	}
}

// checkBoth holds every call on two lists against the words of the chapter.
func checkBoth(t *testing.T, a, b []api.Claim) {
	t.Helper()
	inBoth := func(room, m int) bool { return has(a, room, m) && has(b, room, m) }
	inFirst := func(room, m int) bool { return has(a, room, m) && !has(b, room, m) }
	meet, minus := claim.Meet(a, b), claim.Minus(a, b)
	expect(t, "Meet", meet, neatByWords(inBoth, a, b), a, b)
	expect(t, "Minus", minus, neatByWords(inFirst, a, b), a, b)
	expect(t, "Meet and Minus together", claim.Neat(joined(minus, meet)), claim.Neat(a), a, b)
	expect(t, "Meet of Meet and Minus", claim.Meet(meet, minus), nil, a, b)
	same := len(neatByWords(inFirst, a, b)) == 0 && len(neatByWords(func(room, m int) bool { return has(b, room, m) && !has(a, room, m) }, a, b)) == 0
	if got := claim.Same(a, b); got != same {
		t.Errorf("Same(%v, %v) = %v", a, b, got)
	}
}

// one is one hour in room 3, at 10:30 on the second of January 2000.
func one(does ...func(e *api.Event)) api.Event {
	e := api.Event{UID: "a-1", Start: 2070, Long: 60, Rooms: []int{3}, Rule: rule.Once()}
	for _, f := range does {
		f(&e)
	}
	return e
}

// daily makes an event one of each day.
func daily(count int) func(e *api.Event) {
	return func(e *api.Event) { e.Rule = api.Rule{Freq: api.Daily, Every: 1, Count: count, Until: -1} }
}

func by(r api.Rule) func(e *api.Event) {
	return func(e *api.Event) { e.Rule = r }
}

func from(start int) func(e *api.Event) {
	return func(e *api.Event) { e.Start = start }
}

func long(n int) func(e *api.Event) {
	return func(e *api.Event) { e.Long = n }
}

func in(rooms ...int) func(e *api.Event) {
	return func(e *api.Event) { e.Rooms = rooms }
}

func but(except ...int) func(e *api.Event) {
	return func(e *api.Event) { e.Except = except }
}

// steps gives n minutes, all as far from the one before.
func steps(first, step, n int) []int {
	var out []int
	for i := range n {
		out = append(out, first+i*step)
	}
	return out
}

// some gives up to so many claims in a small part of all room minutes, some of them not valid.
func some(rnd *rand.Rand, most, room, minute int) []api.Claim {
	out := make([]api.Claim, rnd.Intn(most+1))
	for i := range out {
		out[i] = of(room+rnd.Intn(3), minute+rnd.Intn(12), minute+rnd.Intn(12))
	}
	return out
}
