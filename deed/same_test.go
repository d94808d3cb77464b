package deed_test

import (
	"slices"
	"testing"

	"hostelry/api"
)

// listChanges change one element of one list of an event, its order or its length.
func listChanges() []func(e *api.Event) {
	return []func(e *api.Event){
		func(e *api.Event) { e.Rooms[3]-- },
		func(e *api.Event) { e.Rooms = e.Rooms[:3] },
		func(e *api.Event) { e.Rooms = append(e.Rooms, 7) },
		func(e *api.Event) { e.Rooms = nil },
		func(e *api.Event) { slices.Reverse(e.Rooms) },
		func(e *api.Event) { e.Except[11]-- },
		func(e *api.Event) { e.Except = e.Except[1:] },
		func(e *api.Event) { e.Except = append(e.Except, lastMinute) },
		func(e *api.Event) { e.Except = []int{} },
		func(e *api.Event) { slices.Reverse(e.Except) },
		func(e *api.Event) { e.Rule.ByDay[0].N++ },
		func(e *api.Event) { e.Rule.ByDay[2].Day++ },
		func(e *api.Event) { e.Rule.ByDay = e.Rule.ByDay[:2] },
		func(e *api.Event) { e.Rule.ByDay = nil },
		func(e *api.Event) { slices.Reverse(e.Rule.ByDay) },
		func(e *api.Event) { e.Rule.ByMonthDay[3]-- },
		func(e *api.Event) { e.Rule.ByMonthDay = e.Rule.ByMonthDay[:3] },
		func(e *api.Event) { e.Rule.ByMonthDay = nil },
		func(e *api.Event) { slices.Reverse(e.Rule.ByMonthDay) },
		func(e *api.Event) { e.Rule.ByMonth[2]-- },
		func(e *api.Event) { e.Rule.ByMonth = e.Rule.ByMonth[:2] },
		func(e *api.Event) { e.Rule.ByMonth = nil },
		func(e *api.Event) { slices.Reverse(e.Rule.ByMonth) },
		func(e *api.Event) { e.Rule.ByMonthDay, e.Rule.ByMonth = e.Rule.ByMonth, e.Rule.ByMonthDay },
	}
}

// emptyLists put a list that is empty in the place of one that is nil.
func emptyLists() []func(e *api.Event) {
	return []func(e *api.Event){
		func(e *api.Event) { e.Except = []int{} },
		func(e *api.Event) { e.Except = []int{7, 8}[:0] },
		func(e *api.Event) { e.Rule.ByDay = []api.Weekday{} },
		func(e *api.Event) { e.Rule.ByMonthDay = []int{} },
		func(e *api.Event) { e.Rule.ByMonth = []int{9}[:0] },
		func(e *api.Event) {
			e.Except, e.Rule.ByDay, e.Rule.ByMonthDay, e.Rule.ByMonth = []int{}, []api.Weekday{}, []int{}, []int{}
		},
	}
}

// crammed is a deed of which no field is zero, and so none.
func crammed(kind int) api.Deed {
	return api.Deed{
		Kind: kind, ID: id(3, 1), Event: full(), Claims: neat(5), Peer: 1, N: 3,
		Book: api.Booking{ID: id(3, 1), State: api.Confirmed, Event: full()},
	}
}

// P14.1: Same

func TestSameOfEachPair(t *testing.T) {
	l := append(deeds(), api.Deed{}, crammed(0), crammed(api.DBook), crammed(-1), api.Deed{Kind: -1}, api.Deed{Kind: 9})
	for i, a := range l {
		for j, b := range l {
			expectSame(t, a, deedApart(b), i == j)
		}
	}
}

func TestSameButForTheKind(t *testing.T) {
	for _, d := range append(deeds(), api.Deed{}, crammed(api.DGet)) {
		for kind := -2; kind <= 20; kind++ {
			other := deedApart(d)
			other.Kind = kind
			expectSame(t, d, other, kind == d.Kind)
		}
	}
	// These use the same fields.
	for _, pair := range [][2]int{{api.DAsk, api.DBook}, {api.DRefuse, api.DCancel}, {api.DGive, api.DGet}} {
		for _, d := range []api.Deed{small(pair[0]), great(pair[0])} {
			other := deedApart(d)
			other.Kind = pair[1]
			expectIs(t, d, true)
			expectIs(t, other, true)
			expectSame(t, d, other, false)
		}
	}
}

func TestSameButForOneField(t *testing.T) {
	for _, d := range append(deeds(), crammed(api.DHear), crammed(0), api.Deed{}) {
		expectSame(t, d, deedApart(d), true)
		for i, c := range deedChanges() {
			changed := with(d, deedApart, c.do)
			expectSame(t, d, changed, false)
			expectSame(t, changed, deedApart(changed), true)
			if i > 0 {
				expectSame(t, changed, with(d, deedApart, deedChanges()[i-1].do), false)
			}
		}
	}
}

// What is changed in one field of a deed is not the same as what is changed in another one.
func TestSameOfAllChanges(t *testing.T) {
	l := deedChanges()
	for _, d := range []api.Deed{crammed(api.DAsk), {}, small(api.DHear)} {
		for i, a := range l {
			for j, b := range l {
				expectSame(t, with(d, deedApart, a.do), with(d, deedApart, b.do), i == j)
			}
		}
	}
}

func TestSameOfListsOfEvents(t *testing.T) {
	for _, change := range listChanges() {
		for _, d := range []api.Deed{great(api.DAsk), great(api.DBook), crammed(api.DGive)} {
			expectSame(t, d, with(d, deedApart, func(d *api.Deed) { change(&d.Event) }), false)
		}
		for _, d := range []api.Deed{great(api.DHear), crammed(api.DGive)} {
			expectSame(t, d, with(d, deedApart, func(d *api.Deed) { change(&d.Book.Event) }), false)
		}
	}
	for _, empty := range emptyLists() {
		for _, d := range append([]api.Deed{{}}, small(api.DAsk), small(api.DHear), small(api.DThank)) {
			expectSame(t, d, with(d, deedApart, func(d *api.Deed) { empty(&d.Event) }), true)
			expectSame(t, d, with(d, deedApart, func(d *api.Deed) { empty(&d.Book.Event) }), true)
		}
	}
}

// The claims are held against each other one by one, whatever their room minutes.
func TestSameOfClaims(t *testing.T) {
	l := [][]api.Claim{
		list(),
		list(of(0, 0, 1)),
		list(of(1, 0, 1)),
		list(of(0, 1, 2)),
		list(of(0, 0, 2)),
		list(of(0, 0, 1), of(0, 1, 2)),
		list(of(0, 1, 2), of(0, 0, 1)),
		list(of(0, 0, 1), of(0, 0, 1)),
		list(of(0, 0, 1), of(0, 0, 0)),
		list(of(0, 0, 0), of(0, 0, 1)),
		list(of(0, 0, 0)),
		list(of(0, 5, 5)),
		list(of(-1, 5, 9)),
		list(of(8, 5, 9)),
		neat(7),
		neat(8),
		neat(api.MaxClaims),
		neat(api.MaxClaims + 1),
	}
	for i, a := range l {
		for j, b := range l {
			for kind := range 10 {
				expectSame(t, api.Deed{Kind: kind, Claims: a}, api.Deed{Kind: kind, Claims: slices.Clone(b)}, i == j)
			}
		}
	}
	for n := range api.MaxClaims {
		d := api.Deed{Kind: api.DGive, Claims: neat(api.MaxClaims), Peer: 1, N: 3}
		for _, c := range []api.Claim{of(1, 0, 0), of(0, 1, 0), of(0, 0, 1)} {
			other := deedApart(d)
			other.Claims[n].Room += c.Room
			other.Claims[n].Span.From += c.Span.From
			other.Claims[n].Span.To += c.Span.To
			expectSame(t, d, other, false)
		}
		other := deedApart(d)
		other.Claims = slices.Delete(other.Claims, n, n+1)
		expectSame(t, d, other, false)
	}
	expectSame(t, api.Deed{Claims: nil}, api.Deed{Claims: list()}, true)
	expectSame(t, api.Deed{Claims: nil}, api.Deed{Claims: neat(3)[:0]}, true)
}

func TestSameOfOneDeed(t *testing.T) {
	for _, d := range append(deeds(), api.Deed{}, crammed(api.DBook)) {
		expectSame(t, d, d, true)
	}
}
