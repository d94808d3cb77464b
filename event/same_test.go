package event_test

import (
	"math/rand"
	"slices"
	"testing"

	"hostelry/api"
	"hostelry/event"
	"hostelry/rule"
)

// P10.1: Same and Copy

// different are events, and what is none, of which no two are the same: each
// differs from full in one field, in the length of a list or in one element.
func different() []api.Event {
	changes := []func(e *api.Event){
		func(e *api.Event) { e.UID = "" },
		func(e *api.Event) { e.UID += "a" },
		func(e *api.Event) { e.UID = e.UID[:11] + "b" },
		func(e *api.Event) { e.Text = "" },
		func(e *api.Event) { e.Text += "\x00" },
		func(e *api.Event) { e.Text = "A" + e.Text[1:] },
		func(e *api.Event) { e.Start-- },
		func(e *api.Event) { e.Start = -1 },
		func(e *api.Event) { e.Long-- },
		func(e *api.Event) { e.Long = 0 },
		func(e *api.Event) { e.Rooms = nil },
		func(e *api.Event) { e.Rooms = e.Rooms[:3] },
		func(e *api.Event) { e.Rooms = e.Rooms[1:] },
		func(e *api.Event) { e.Rooms = append(e.Rooms, 8) },
		func(e *api.Event) { e.Rooms[0] = -1 },
		func(e *api.Event) { e.Rooms[3] = 8 },
		func(e *api.Event) { e.Rooms[0], e.Rooms[1] = e.Rooms[1], e.Rooms[0] },
		func(e *api.Event) { e.Rule = rule.Once() },
		func(e *api.Event) { e.Rule = api.Rule{} },
		func(e *api.Event) { e.Rule.Freq = api.Daily },
		func(e *api.Event) { e.Rule.Every = 1 },
		func(e *api.Event) { e.Rule.Count = 1 },
		func(e *api.Event) { e.Rule.Until = -1 },
		func(e *api.Event) { e.Rule.ByDay = nil },
		func(e *api.Event) { e.Rule.ByDay = e.Rule.ByDay[:2] },
		func(e *api.Event) { e.Rule.ByDay[2].N = 4 },
		func(e *api.Event) { e.Rule.ByDay[0].Day = 1 },
		func(e *api.Event) { e.Rule.ByMonthDay = nil },
		func(e *api.Event) { e.Rule.ByMonthDay = e.Rule.ByMonthDay[1:] },
		func(e *api.Event) { e.Rule.ByMonthDay[3] = 30 },
		func(e *api.Event) { e.Rule.ByMonth = nil },
		func(e *api.Event) { e.Rule.ByMonth = append(e.Rule.ByMonth, 13) },
		func(e *api.Event) { e.Rule.ByMonth[0] = 0 },
		func(e *api.Event) { e.Except = nil },
		func(e *api.Event) { e.Except = e.Except[:11] },
		func(e *api.Event) { e.Except = e.Except[1:] },
		func(e *api.Event) { e.Except = append(e.Except, lastMinute) },
		func(e *api.Event) { e.Except[0] = 1 },
		func(e *api.Event) { e.Except[11]++ },
		func(e *api.Event) { e.Except[5], e.Except[6] = e.Except[6], e.Except[5] },
	}
	out := []api.Event{{}, hour(), full()}
	for _, change := range changes {
		out = append(out, with(full(), change))
	}
	return out
}

func TestEventsThatDiffer(t *testing.T) {
	all := different()
	for i, a := range all {
		for j, b := range all {
			expectSame(t, a, apart(b), i == j)
		}
	}
}

func TestNoListIsAnEmptyOne(t *testing.T) {
	a := hour()
	a.Rooms = nil
	for _, change := range []func(e *api.Event){
		func(e *api.Event) { e.Rooms = []int{} },
		func(e *api.Event) { e.Except = []int{} },
		func(e *api.Event) { e.Except = minutes(5)[:0] },
		func(e *api.Event) { e.Rule.ByDay = []api.Weekday{} },
		func(e *api.Event) { e.Rule.ByMonthDay = []int{} },
		func(e *api.Event) { e.Rule.ByMonth = []int{} },
	} {
		b := with(a, change)
		expectSame(t, a, b, true)
		expectSame(t, a, event.Copy(b), true)
		expectSame(t, b, event.Copy(a), true)
	}
	// What lies behind a list does not count.
	long := minutes(5)
	expectSame(t, with(full(), func(e *api.Event) { e.Except = long[:3] }), with(full(), func(e *api.Event) { e.Except = minutes(3) }), true)
}

func TestCopiesAreEqual(t *testing.T) {
	for _, e := range slices.Concat(events(), noEvents(), different()) {
		got := event.Copy(e)
		if !equal(got, e) {
			t.Errorf("Copy(%+v) = %+v", e, got)
		}
		expectSame(t, got, e, true)
	}
	rnd := rand.New(rand.NewSource(11))
	for range 5000 {
		e := someEvent(rnd)
		spoil(rnd, &e)
		if got := event.Copy(e); !equal(got, e) {
			t.Fatalf("Copy(%+v) = %+v", e, got)
		}
	}
}

// scribble writes into all lists of an event, and behind them.
func scribble(e api.Event) {
	fill(e.Rooms, -7)
	fill(e.Except, -7)
	fill(e.Rule.ByDay, api.Weekday{N: -7, Day: -7})
	fill(e.Rule.ByMonthDay, -7)
	fill(e.Rule.ByMonth, -7)
}

func fill[E any](l []E, with E) {
	l = l[:cap(l)]
	for i := range l {
		l[i] = with
	}
}

// roomy gives the event with room behind each of its lists, and what lies there.
func roomy(e api.Event) api.Event {
	e.Rooms, e.Except = more(e.Rooms, 9), more(e.Except, 9)
	e.Rule.ByDay = more(e.Rule.ByDay, api.Weekday{N: 9, Day: 9})
	e.Rule.ByMonthDay, e.Rule.ByMonth = more(e.Rule.ByMonthDay, 9), more(e.Rule.ByMonth, 9)
	return e
}

func more[E any](l []E, behind E) []E {
	return append(slices.Clone(l), behind, behind, behind)[:len(l)]
}

// untouched reports whether an event is as it was, and what lies behind the lists that roomy made.
func untouched(e, was api.Event) bool {
	return equal(e, was) && hasBehind(e.Rooms, 9) && hasBehind(e.Except, 9) &&
		hasBehind(e.Rule.ByDay, api.Weekday{N: 9, Day: 9}) && hasBehind(e.Rule.ByMonthDay, 9) && hasBehind(e.Rule.ByMonth, 9)
}

func hasBehind[E comparable](l []E, behind E) bool {
	return slices.Equal(l[len(l):len(l)+3], []E{behind, behind, behind})
}

func TestCopiesAreApart(t *testing.T) {
	for _, was := range slices.Concat(events(), noEvents(), different()) {
		e := roomy(was)
		a, b := event.Copy(e), event.Copy(e)
		scribble(a)
		if !untouched(e, was) {
			t.Errorf("writing into the copy of %+v changes it to %+v", was, e)
		}
		if !equal(b, was) {
			t.Errorf("writing into a copy of %+v changes the other one to %+v", was, b)
		}
		scribble(e)
		if !equal(b, was) {
			t.Errorf("writing into %+v changes its copy to %+v", was, b)
		}
	}
}

func TestTheListsOfACopyAreApart(t *testing.T) {
	for _, e := range events() {
		for _, change := range []func(e api.Event){
			func(e api.Event) { fill(e.Rooms, -7) },
			func(e api.Event) { fill(e.Except, -7) },
			func(e api.Event) { fill(e.Rule.ByMonthDay, -7) },
			func(e api.Event) { fill(e.Rule.ByMonth, -7) },
		} {
			a, b := event.Copy(e), apart(e)
			change(a)
			change(b)
			if !equal(a, b) {
				t.Errorf("writing into one list of the copy of %+v changes it to %+v", e, a)
			}
		}
	}
}
