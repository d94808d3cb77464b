package deed_test

import (
	"math"
	"slices"
	"strings"
	"testing"

	"hostelry/api"
	"hostelry/rule"
)

// P14.2: Is

func TestTheExampleOfTheChapter(t *testing.T) {
	d := api.Deed{Kind: api.DCancel, ID: api.ID{Seq: 3, Site: 1}}
	expectIs(t, d, true)
	expectSame(t, d, api.Deed{Kind: api.DCancel, ID: id(3, 1)}, true)
	expectSame(t, d, api.Deed{Kind: api.DRefuse, ID: id(3, 1)}, false)
}

func TestDeedsOfEachKind(t *testing.T) {
	for _, d := range []api.Deed{
		{Kind: 1, ID: id(3, 1), Event: hour()},
		{Kind: 2, ID: id(3, 1), Event: hour()},
		{Kind: 3, ID: id(3, 1)},
		{Kind: 4, ID: id(3, 1)},
		{Kind: 5, Claims: list(of(3, 2070, 2130)), Peer: 2, N: 9},
		{Kind: 6, Claims: list(of(3, 2070, 2130)), Peer: 2, N: 9},
		{Kind: 7, Peer: 2, N: 9},
		{Kind: 8, Peer: 2, N: 9, Book: booking(3, 2, api.Confirmed)},
		{Kind: 8, Peer: 2, N: 9, Book: booking(3, 2, api.Cancelled)},
	} {
		expectIs(t, d, true)
		// With the fields that one kind uses it is none of another one, but of its twin.
		for kind := -1; kind <= 10; kind++ {
			other := d
			other.Kind = kind
			want := kind == d.Kind || slices.Contains([][2]int{{1, 2}, {3, 4}, {5, 6}}, [2]int{min(kind, d.Kind), max(kind, d.Kind)})
			expectIs(t, other, want)
		}
	}
}

func TestFieldsAtTheirLeastAndTheirGreatest(t *testing.T) {
	for _, kind := range kinds() {
		expectIs(t, small(kind), true)
		expectIs(t, great(kind), true)
	}
}

func TestKindsThatAreNone(t *testing.T) {
	for _, kind := range append(far(), -1, 0, api.DHear+1, api.DHear+2, 1<<32+api.DCancel) {
		expectIs(t, api.Deed{Kind: kind}, false)
		expectIs(t, crammed(kind), false)
		for _, d := range deeds() {
			d.Kind = kind
			expectIs(t, d, false)
		}
	}
	expectIs(t, api.Deed{}, false)
}

func TestIDsOfDeeds(t *testing.T) {
	for _, kind := range []int{api.DAsk, api.DBook, api.DRefuse, api.DCancel} {
		for _, d := range []api.Deed{small(kind), great(kind)} {
			for _, seq := range append(far(), -1, 0, 1, api.MaxSeq, api.MaxSeq+1) {
				for _, site := range append(far(), -1, 0, lastSite, api.MaxSite) {
					d.ID = id(seq, site)
					expectIs(t, d, seq >= 1 && seq <= api.MaxSeq && site >= 0 && site <= lastSite)
				}
			}
		}
	}
}

func TestEventsOfDeeds(t *testing.T) {
	for _, kind := range []int{api.DAsk, api.DBook} {
		for _, d := range []api.Deed{small(kind), great(kind)} {
			for _, e := range noEvents() {
				d.Event = e
				expectIs(t, d, false)
			}
			d.Event = hour()
			expectIs(t, d, true)
		}
	}
}

func TestPeersAndNumbersOfDeeds(t *testing.T) {
	for _, kind := range []int{api.DGive, api.DGet, api.DThank, api.DHear} {
		for _, d := range []api.Deed{small(kind), great(kind)} {
			for _, peer := range append(far(), -1, 0, 1, 2, lastSite, api.MaxSite) {
				for _, n := range append(far(), -1, 0, 1, api.MaxSeq, api.MaxSeq+1) {
					d.Peer, d.N = peer, n
					if kind == api.DHear {
						d.Book.ID.Site = peer
					}
					expectIs(t, d, peer >= 0 && peer <= lastSite && n >= 1 && n <= api.MaxSeq)
				}
			}
		}
	}
}

func TestEachFieldThatIsNotUsed(t *testing.T) {
	for _, d := range deeds() {
		for _, c := range deedChanges() {
			field, _, _ := strings.Cut(c.field, ".")
			if !uses(d.Kind, field) {
				expectIs(t, with(d, deedApart, c.do), false)
			}
		}
	}
}

// What is not used must not be there, however valid it is.
func TestWhatIsNotUsedButValid(t *testing.T) {
	for _, d := range deeds() {
		for _, c := range []change[api.Deed]{
			{"ID", func(d *api.Deed) { d.ID = id(1, 0) }},
			{"ID", func(d *api.Deed) { d.ID = id(3, 1) }},
			{"Event", func(d *api.Deed) { d.Event = hour() }},
			{"Event", func(d *api.Deed) { d.Event = full() }},
			{"Event", func(d *api.Deed) { d.Event.Rule = rule.Once() }}, // its Until is not zero
			{"Claims", func(d *api.Deed) { d.Claims = list(of(3, 2070, 2130)) }},
			{"Peer", func(d *api.Deed) { d.Peer = 1 }},
			{"N", func(d *api.Deed) { d.N = 1 }},
			{"Book", func(d *api.Deed) { d.Book = booking(3, 1, api.Confirmed) }},
			{"Book", func(d *api.Deed) { d.Book = booking(3, 0, api.Cancelled) }},
			{"Book", func(d *api.Deed) { d.Book.ID = id(3, 1) }},
			{"Book", func(d *api.Deed) { d.Book.Event = hour() }},
			{"Book", func(d *api.Deed) { d.Book.Event.Rule = rule.Once() }},
			{"Book", func(d *api.Deed) { d.Book.State = api.Confirmed }},
		} {
			if !uses(d.Kind, c.field) {
				expectIs(t, with(d, deedApart, c.do), false)
			}
		}
	}
}

func TestAFieldThatIsMissing(t *testing.T) {
	for _, d := range deeds() {
		for _, c := range []change[api.Deed]{
			{"ID", func(d *api.Deed) { d.ID = api.ID{} }},
			{"Event", func(d *api.Deed) { d.Event = api.Event{} }},
			{"Claims", func(d *api.Deed) { d.Claims = nil }},
			{"N", func(d *api.Deed) { d.N = 0 }},
			{"Book", func(d *api.Deed) { d.Book = api.Booking{} }},
			{"Book", func(d *api.Deed) { d.Book.Event = api.Event{} }},
			{"Book", func(d *api.Deed) { d.Book.ID.Seq = 0 }},
			{"Book", func(d *api.Deed) { d.Book.State = 0 }},
		} {
			if uses(d.Kind, c.field) {
				expectIs(t, with(d, deedApart, c.do), false)
			}
		}
	}
}

// A list that is not used may be empty rather than nil.
func TestListsThatAreEmpty(t *testing.T) {
	for _, d := range deeds() {
		if !uses(d.Kind, "Claims") {
			d.Claims = list()
			expectIs(t, d, true)
			d.Claims = neat(3)[:0]
			expectIs(t, d, true)
		}
		if !uses(d.Kind, "Event") {
			d.Event.Rooms = []int{}
			expectIs(t, d, true)
			for _, empty := range emptyLists() {
				expectIs(t, with(d, deedApart, func(d *api.Deed) { empty(&d.Event) }), true)
			}
		}
		if !uses(d.Kind, "Book") {
			d.Book.Event.Rooms = []int{}
			expectIs(t, d, true)
			for _, empty := range emptyLists() {
				expectIs(t, with(d, deedApart, func(d *api.Deed) { empty(&d.Book.Event) }), true)
			}
		}
	}
	for _, empty := range emptyLists() {
		for _, kind := range []int{api.DAsk, api.DBook} {
			expectIs(t, with(small(kind), deedApart, func(d *api.Deed) { empty(&d.Event) }), true)
		}
		expectIs(t, with(small(api.DHear), deedApart, func(d *api.Deed) { empty(&d.Book.Event) }), true)
	}
}

// P14.2: DGive and DGet

// expectClaims fails unless gifts of these claims, given and received, are deeds, or none.
func expectClaims(t *testing.T, c []api.Claim, want bool) {
	t.Helper()
	for _, kind := range []int{api.DGive, api.DGet} {
		expectIs(t, api.Deed{Kind: kind, Claims: c, Peer: 2, N: 9}, want)
	}
}

func TestSoManyClaims(t *testing.T) {
	for n := range 400 {
		expectClaims(t, neat(n), n >= 1 && n <= api.MaxClaims)
	}
	for _, n := range []int{0, 1, api.MaxClaims, api.MaxClaims + 1, 100_000} {
		expectClaims(t, neat(n), n == 1 || n == api.MaxClaims)
	}
	expectClaims(t, nil, false)
	expectClaims(t, list(), false)
	// So many are too many, even if their unique form is shorter.
	expectClaims(t, slices.Repeat(list(of(0, 0, 1)), api.MaxClaims+1), false)
	expectClaims(t, slices.Repeat(list(of(0, 0, 1)), 1_000_000), false)
}

func TestClaimsInNeatForm(t *testing.T) {
	for _, l := range [][]api.Claim{
		list(of(0, 0, 1)),
		list(of(7, lastMinute, api.MaxMinute)),
		list(of(3, 0, api.MaxMinute)),
		list(of(0, 0, 5), of(0, 6, 9)),
		list(of(0, 0, 5), of(1, 5, 9)), // touching, but in different rooms
		list(of(0, 0, 5), of(1, 0, 5)),
		list(of(0, 5, 9), of(1, 0, 4)),
		list(of(0, 0, 5), of(0, 6, 9), of(2, 3, 4), of(7, 0, 1), of(7, 2, 3)),
	} {
		expectClaims(t, l, true)
	}
}

func TestClaimsThatAreNotInNeatForm(t *testing.T) {
	for _, l := range [][]api.Claim{
		list(of(0, 6, 9), of(0, 0, 5)), // in another order
		list(of(1, 0, 5), of(0, 0, 5)),
		list(of(0, 0, 5), of(2, 0, 5), of(1, 0, 5)),
		list(of(0, 0, 5), of(0, 5, 9)), // touching
		list(of(0, 0, 5), of(0, 4, 9)), // overlapping
		list(of(0, 0, 9), of(0, 4, 5)),
		list(of(0, 0, 9), of(0, 0, 5)),
		list(of(0, 0, 5), of(0, 0, 9)),
		list(of(0, 0, 5), of(0, 0, 5)), // twice the same
		list(of(0, 0, 5), of(0, 6, 9), of(0, 6, 9)),
		list(of(0, 0, 0)), // not valid
		list(of(0, 5, 4)),
		list(of(0, -1, 4)),
		list(of(0, 0, api.MaxMinute+1)),
		list(of(-1, 0, 5)),
		list(of(api.MaxRoom, 0, 5)),
		list(of(math.MinInt, math.MinInt, math.MaxInt)),
		list(of(math.MaxInt, 0, 5)),
		list(of(0, math.MaxInt, math.MinInt)),
		list(of(0, 0, 5), of(0, 7, 7)),
		list(of(0, 0, 0), of(0, 0, 5)),
		list(of(-1, 0, 5), of(0, 0, 5)),
		list(of(7, 0, 5), of(8, 0, 5)),
	} {
		expectClaims(t, l, false)
	}
}

func TestEachClaimOfMany(t *testing.T) {
	for n := range api.MaxClaims {
		for _, c := range []api.Claim{of(9, 0, 5), of(0, 0, 5), of(2, 0, 0), of(5, 0, api.MaxMinute), of(2, -1, 5)} {
			l := neat(api.MaxClaims)
			if l[n] = c; c == of(0, 0, 5) && n == 0 {
				continue // this one is neat
			}
			expectClaims(t, l, false)
		}
		if n > 0 {
			l := neat(api.MaxClaims)
			l[n-1], l[n] = l[n], l[n-1]
			expectClaims(t, l, false)
			l = neat(api.MaxClaims)
			l[n-1] = l[n]
			expectClaims(t, l, false)
		}
	}
}

// P14.2: DHear

func TestBookingsThatAreHeard(t *testing.T) {
	for _, peer := range []int{0, 1, 2, lastSite} {
		for site := -1; site <= api.MaxSite; site++ {
			for state := -1; state <= api.Cancelled+1; state++ {
				d := api.Deed{Kind: api.DHear, Peer: peer, N: 9, Book: booking(3, site, state)}
				want := site == peer && (state == api.Confirmed || state == api.Cancelled)
				expectIs(t, d, want)
				d.Book.ID.Seq = 0
				expectIs(t, d, false)
				d.Book.ID.Seq = api.MaxSeq + 1
				expectIs(t, d, false)
			}
		}
		for _, e := range noEvents() {
			d := api.Deed{Kind: api.DHear, Peer: peer, N: 9, Book: booking(3, peer, api.Confirmed)}
			expectIs(t, d, true)
			d.Book.Event = e
			expectIs(t, d, false)
		}
	}
	// Its number and that of the news have nothing to do with each other.
	for _, d := range []api.Deed{
		{Kind: api.DHear, Peer: 1, N: 1, Book: booking(api.MaxSeq, 1, api.Confirmed)},
		{Kind: api.DHear, Peer: 1, N: api.MaxSeq, Book: booking(1, 1, api.Confirmed)},
	} {
		expectIs(t, d, true)
	}
}

// P14.3: what a site does can be written down, and one deed is not taken for another

func TestWhatASiteWritesDown(t *testing.T) {
	l := []api.Deed{
		{Kind: api.DAsk, ID: id(1, 0), Event: hour()},
		{Kind: api.DGet, Claims: list(of(3, 2070, 2130)), Peer: 1, N: 1},
		{Kind: api.DBook, ID: id(1, 0), Event: hour()},
		{Kind: api.DGive, Claims: list(of(0, 0, api.Day)), Peer: 1, N: 1},
		{Kind: api.DThank, Peer: 1, N: 1},
		{Kind: api.DHear, Peer: 1, N: 1, Book: booking(1, 1, api.Confirmed)},
		{Kind: api.DHear, Peer: 1, N: 2, Book: booking(1, 1, api.Cancelled)},
		{Kind: api.DCancel, ID: id(1, 0)},
		{Kind: api.DAsk, ID: id(2, 0), Event: full()},
		{Kind: api.DRefuse, ID: id(2, 0)},
	}
	for i, a := range l {
		expectIs(t, a, true)
		for j, b := range l {
			expectSame(t, a, deedApart(b), i == j)
		}
	}
}
