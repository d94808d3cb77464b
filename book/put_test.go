package book_test

import (
	"math/rand"
	"slices"
	"testing"

	"hostelry/api"
	"hostelry/book"
	"hostelry/claim"
	"hostelry/event"
)

// P17.1: New

func TestNew(t *testing.T) {
	for range 2 { // each one is new
		b := book.New()
		expect(t, b, nil)
		expectOpen(t, b, 0)
		for _, i := range append(noIDs(), id(1, 0), id(1, lastSite), id(api.MaxSeq, 0), id(api.MaxSeq, lastSite)) {
			expectGet(t, b, i)
		}
		for _, c := range [][]api.Claim{nil, list(), list(of(3, 2070, 2130)), whole(), none(), append(whole(), none()...)} {
			expectBusy(t, b, c) // the example
		}
		b.Put(booked(1, 0, api.Confirmed))
		expect(t, b, paperOf(booked(1, 0, api.Confirmed)))
	}
}

// P17.1: Put

func TestPutInEachState(t *testing.T) {
	hour := of(3, 2070, 2130)
	for _, c := range []struct {
		state, open int
		taken       bool
		busy        []api.Claim
	}{
		{api.Pending, 1, true, nil},
		{api.Confirmed, 1, true, list(hour)},
		{api.Refused, 0, false, nil},
		{api.Cancelled, 0, false, nil},
	} {
		for _, i := range []api.ID{id(1, 0), id(1, lastSite), id(2, 1), id(api.MaxSeq-1, 2), id(api.MaxSeq, 0), id(api.MaxSeq, lastSite)} {
			x := api.Booking{ID: i, State: c.state, Event: one()}
			b := bookOf(x)
			expectGet(t, b, i, x)
			expectBookings(t, "All", b.All(), []api.Booking{x})
			for _, state := range states() {
				var want []api.Booking
				if state == c.state {
					want = append(want, x)
				}
				expectBookings(t, "Of", b.Of(state), want)
			}
			expectOpen(t, b, c.open)
			expectTaken(t, b, "a-1", c.taken)
			expectBusy(t, b, whole(), c.busy...)
			expect(t, b, paperOf(x))
			for range 3 { // the same again changes nothing
				b.Put(x)
				expect(t, b, paperOf(x))
			}
		}
	}
}

// others are events of all kinds that have claims.
func others() []api.Event {
	return []api.Event{
		one(),
		one(named("b-2")),
		one(text("another text")),
		one(from(0)),
		one(from(2100), in(3, 5)),
		one(from(lastMinute), long(1)),
		one(daily(3)),
		one(daily(3), but(2070+api.Day)),
		one(daily(3), long(api.Day)),
		one(most),
		one(full),
	}
}

func TestTheEventsOfTheseTests(t *testing.T) {
	for _, e := range others() {
		if l, err := claim.Of(e); err != api.OK || len(l) == 0 {
			t.Errorf("Of(%+v) = %v, %v", e, l, err)
		}
	}
	if l, _ := claim.Of(one(most)); len(l) != api.MaxClaims {
		t.Errorf("%d claims", len(l))
	}
	if l, _ := claim.Of(one(full)); len(l) < 16 {
		t.Errorf("%d claims", len(l))
	}
	for _, e := range noEvents() {
		if event.Is(e) {
			t.Errorf("%+v is an event", e)
		}
	}
	for want, l := range neverEvents() {
		for _, e := range l {
			if _, err := claim.Of(e); err != want || !event.Is(e) {
				t.Errorf("Of(%+v): %v, want %v", e, err, want)
			}
		}
	}
}

// What is put again with the same ID, in another state or with another event,
// is all that is left of the one before.
func TestPutReplaces(t *testing.T) {
	beside := []api.Booking{
		booked(6, 2, api.Confirmed, named("before")), booked(7, 1, api.Pending, named("beside")),
		booked(7, 3, api.Cancelled, named("beside")), booked(8, 2, api.Refused, named("behind")),
	}
	for _, l := range [][]api.Booking{nil, beside} {
		for _, was := range states() {
			for _, state := range states() {
				for _, e := range others() {
					first := api.Booking{ID: id(7, 2), State: was, Event: one()}
					next := api.Booking{ID: id(7, 2), State: state, Event: e}
					b := bookOf(append(slices.Clone(l), first)...)
					expect(t, b, append(paperOf(l...), first))
					b.Put(next)
					expect(t, b, append(paperOf(l...), next))
					b.Put(next)
					b.Put(next)
					expect(t, b, append(paperOf(l...), next))
					b.Put(first) // and there again
					expect(t, b, append(paperOf(l...), first))
				}
			}
		}
	}
}

// orders gives all orders of a few numbers.
func orders(n int) [][]int {
	if n == 0 {
		return [][]int{nil}
	}
	var out [][]int
	for _, shorter := range orders(n - 1) {
		for i := range n {
			out = append(out, slices.Insert(slices.Clone(shorter), i, n-1))
		}
	}
	return out
}

// Several sites, several bookings of each, in whatever order they are put.
func TestPutInEachOrder(t *testing.T) {
	l := []api.Booking{
		booked(1, 0, api.Confirmed, named("a")),
		booked(1, 1, api.Pending, named("b"), in(5)),
		booked(1, lastSite, api.Confirmed, named("c"), from(2100)),
		booked(2, 0, api.Cancelled, named("d")),
		booked(2, 2, api.Refused, named("e")),
		booked(10, 0, api.Pending, named("f")),
	}
	for _, order := range orders(len(l)) {
		b := book.New()
		for _, i := range order {
			b.Put(l[i])
		}
		expectBookings(t, "All", b.All(), l)
		expect(t, b, l)
		if t.Failed() {
			return
		}
	}
}

func TestPutAtTheEndsOfTheIDs(t *testing.T) {
	var l []api.Booking
	for _, seq := range []int{1, 2, api.MaxSeq - 1, api.MaxSeq} {
		for site := range api.MaxSite {
			l = append(l, booked(seq, site, states()[(seq+site)%4], from(seq%1000*60)))
		}
	}
	turned := slices.Clone(l)
	slices.Reverse(turned)
	for _, order := range [][]api.Booking{l, turned} {
		b := bookOf(order...)
		expectBookings(t, "All", b.All(), l)
		expect(t, b, l)
	}
}

// P17.1: what Put does nothing for

// already are bookings that a book has before something is put that is none.
func already() [][]api.Booking {
	out := [][]api.Booking{nil}
	for _, state := range states() {
		var l []api.Booking
		for seq := 1; seq <= 3; seq++ {
			for site := range api.MaxSite {
				l = append(l, booked(seq, site, state, named("was"), from(seq*1000), in(site)))
			}
		}
		out = append(out, l)
	}
	return out
}

func TestPutOfNoBooking(t *testing.T) {
	for _, l := range already() {
		want := paperOf(l...)
		b := bookOf(l...)
		for _, x := range noBookings() {
			b.Put(x)
			expectBookings(t, "All", b.All(), want.ordered())
			if t.Failed() {
				t.Fatalf("behind Put(%+v)", x)
			}
		}
		expect(t, b, want)
		for _, x := range noBookings()[:40] { // each alone
			expect(t, bookOf(append(slices.Clone(l), x)...), want)
		}
	}
}

// Each event that no booking has, in each state, over a booking that is there.
func TestPutOfEachFaultyEvent(t *testing.T) {
	for _, state := range states() {
		for _, e := range faultyEvents() {
			x := api.Booking{ID: id(2, 1), State: state, Event: e}
			b := bookOf(x)
			expect(t, b, nil)
			for _, was := range states() {
				there := booked(2, 1, was, named("there"))
				b := bookOf(there, x)
				expect(t, b, paper{there})
			}
			if t.Failed() {
				t.Fatalf("behind Put(%+v)", x)
			}
		}
	}
}

func TestPutOfEachFaultyState(t *testing.T) {
	for _, state := range noStates() {
		x := booked(2, 1, state)
		expect(t, bookOf(x), nil)
		for _, was := range states() {
			there := booked(2, 1, was, named("there"))
			expect(t, bookOf(there, x), paper{there})
		}
	}
}

func TestPutOfEachFaultyID(t *testing.T) {
	there := []api.Booking{
		booked(1, 0, api.Confirmed), booked(1, lastSite, api.Pending, named("b")),
		booked(api.MaxSeq, 0, api.Refused), booked(api.MaxSeq, lastSite, api.Confirmed, named("c")),
	}
	for _, no := range noIDs() {
		for _, state := range states() {
			x := api.Booking{ID: no, State: state, Event: one(named("new"))}
			b := bookOf(append(slices.Clone(there), x)...)
			expectGet(t, b, no)
			expectTaken(t, b, "new", false)
			expectBookings(t, "All", b.All(), there)
			if len(bookOf(x).All()) != 0 {
				t.Errorf("Put(%+v) did something", x)
			}
		}
	}
}

// Several causes together are none the less.
func TestPutOfSeveralFaults(t *testing.T) {
	rnd := rand.New(rand.NewSource(17))
	there := []api.Booking{booked(1, 0, api.Confirmed), booked(2, 1, api.Pending, named("b"))}
	b, want := bookOf(there...), paperOf(there...)
	for range 3000 {
		x := booked(1, 0, api.Cancelled)
		faults := rnd.Intn(7) + 1
		if faults&1 != 0 {
			x.ID = noIDs()[rnd.Intn(len(noIDs()))]
		}
		if faults&2 != 0 {
			x.State = noStates()[rnd.Intn(len(noStates()))]
		}
		if faults&4 != 0 {
			x.Event = faultyEvents()[rnd.Intn(len(faultyEvents()))]
		}
		b.Put(x)
		expectBookings(t, "All", b.All(), want.ordered())
		if t.Failed() {
			t.Fatalf("behind Put(%+v)", x)
		}
	}
	expect(t, b, want)
	b.Put(booked(1, 0, api.Cancelled)) // without a fault
	expect(t, b, paperOf(append(there, booked(1, 0, api.Cancelled))...))
}
