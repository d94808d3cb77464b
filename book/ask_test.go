package book_test

import (
	"math"
	"slices"
	"testing"

	"hostelry/api"
	"hostelry/book"
)

// some are bookings of all states, of several sites, ascending.
func some() []api.Booking {
	return []api.Booking{
		booked(1, 0, api.Confirmed, named("a")),
		booked(1, 2, api.Refused, named("b")),
		booked(2, 0, api.Pending, named("c")),
		booked(2, 1, api.Cancelled, named("d")),
		booked(2, 2, api.Cancelled, named("a")),
		booked(3, 3, api.Confirmed, full),
		booked(9, 0, api.Refused, named("c")),
		booked(10, 1, api.Pending, most),
		booked(100, 0, api.Confirmed, named("e"), in(3, 4)),
		booked(api.MaxSeq, 0, api.Pending, named("c")),
	}
}

// P17.1: Get

func TestGet(t *testing.T) {
	b := bookOf(some()...)
	for _, x := range some() {
		expectGet(t, b, x.ID, x)
		expectGet(t, b, x.ID, x)
	}
	for _, i := range []api.ID{
		id(1, 1), id(1, 3), id(2, 3), id(3, 0), id(3, 2), id(9, 1), id(10, 0), // the same Seq at another site
		id(4, 0), id(8, 0), id(11, 1), id(99, 0), id(101, 0), id(api.MaxSeq-1, 0), id(api.MaxSeq, lastSite),
	} {
		expectGet(t, b, i)
	}
	for _, i := range append(noIDs(), api.ID{}) {
		expectGet(t, b, i)
	}
}

// A book tells of each site by itself.
func TestGetOfEqualSeqs(t *testing.T) {
	var l []api.Booking
	for site := range api.MaxSite {
		for seq := 1; seq <= 3; seq++ {
			if seq != site {
				l = append(l, booked(seq, site, states()[site], from(100*seq+site)))
			}
		}
	}
	b := bookOf(l...)
	for _, x := range l {
		expectGet(t, b, x.ID, x)
	}
	for site := 1; site <= 3; site++ {
		expectGet(t, b, id(site, site))
	}
}

// P17.1: All and Of

func TestAllAndOf(t *testing.T) {
	l := some()
	b := bookOf(l...)
	expectBookings(t, "All", b.All(), l)
	expectBookings(t, "Of Pending", b.Of(api.Pending), []api.Booking{l[2], l[7], l[9]})
	expectBookings(t, "Of Confirmed", b.Of(api.Confirmed), []api.Booking{l[0], l[5], l[8]})
	expectBookings(t, "Of Refused", b.Of(api.Refused), []api.Booking{l[1], l[6]})
	expectBookings(t, "Of Cancelled", b.Of(api.Cancelled), []api.Booking{l[3], l[4]})
	for _, state := range noStates() {
		expectBookings(t, "Of none", b.Of(state), nil)
		expectBookings(t, "Of none", book.New().Of(state), nil)
	}
	slices.Reverse(l)
	b = bookOf(l...)
	expectBookings(t, "All", b.All(), some())
	expectBookings(t, "Of Pending", b.Of(api.Pending), []api.Booking{l[7], l[2], l[0]})
}

// The state that a booking has now is the one that counts.
func TestOfFollowsTheState(t *testing.T) {
	b := bookOf(booked(1, 0, api.Pending), booked(2, 0, api.Pending))
	for _, was := range states() {
		for _, state := range append(states(), was) {
			b.Put(booked(1, 0, was))
			b.Put(booked(1, 0, state))
			for _, asked := range states() {
				var want []api.Booking
				if asked == state {
					want = append(want, booked(1, 0, state))
				}
				if asked == api.Pending {
					want = append(want, booked(2, 0, api.Pending))
				}
				expectBookings(t, "Of", b.Of(asked), want)
			}
		}
	}
}

// P17.1: Open

func TestOpen(t *testing.T) {
	b := book.New()
	for _, c := range []struct{ seq, state, want int }{
		{1, api.Refused, 0},
		{2, api.Cancelled, 0},
		{3, api.Pending, 1},
		{4, api.Confirmed, 2},
		{3, api.Confirmed, 2},
		{3, api.Pending, 2},
		{3, api.Refused, 1},
		{3, api.Refused, 1},
		{4, api.Cancelled, 0},
		{4, api.Confirmed, 1}, // and back
		{4, api.Confirmed, 1},
		{1, api.Pending, 2},
		{2, api.Pending, 3},
		{2, api.Cancelled, 2},
		{5, api.Pending, 3},
		{5, 0, 3}, // it does nothing
		{5, api.Cancelled + 1, 3},
		{0, api.Pending, 3},
		{api.MaxSeq, api.Confirmed, 4},
		{api.MaxSeq + 1, api.Confirmed, 4},
	} {
		b.Put(booked(c.seq, 1, c.state))
		if got := b.Open(); got != c.want {
			t.Errorf("Open behind %v = %d", c, got)
		}
	}
}

// A book may have more than a site can.
func TestOpenOfMany(t *testing.T) {
	b := book.New()
	for i := range 5 * api.MaxOwn {
		b.Put(booked(1+i, 0, []int{api.Pending, api.Confirmed}[i%2]))
		expectOpen(t, b, 1+i)
	}
	for i := range 5 * api.MaxOwn {
		b.Put(booked(1+i, 0, []int{api.Refused, api.Cancelled}[i%2]))
		expectOpen(t, b, 5*api.MaxOwn-1-i)
	}
}

// P17.1: Taken

func TestTaken(t *testing.T) {
	b := bookOf(
		booked(1, 0, api.Pending, named("pending")),
		booked(2, 0, api.Confirmed, named("confirmed")),
		booked(3, 0, api.Refused, named("refused")),
		booked(4, 0, api.Cancelled, named("cancelled")),
		booked(5, 0, api.Refused, named("over")),
		booked(6, 0, api.Cancelled, named("over")),
		booked(7, 0, api.Refused, named("again")), // one is over, the other is not
		booked(7, 1, api.Pending, named("again")),
		booked(8, 0, api.Confirmed, named("once-more")),
		booked(8, 1, api.Cancelled, named("once-more")),
		booked(9, 2, api.Pending, named("two")),
		booked(9, 3, api.Confirmed, named("two")),
		booked(10, 0, api.Confirmed, named("A-b-0")),
	)
	for uid, want := range map[string]bool{
		"pending": true, "confirmed": true, "refused": false, "cancelled": false, "over": false,
		"again": true, "once-more": true, "two": true, "A-b-0": true,
		"": false, "nobody": false, "pendin": false, "pendingg": false, " pending": false, "pending\n": false, "ending": false,
		"Pending": false, "PENDING": false, "a-b-0": false, "A-B-0": false, "A-b-O": false, "A_b_0": false,
		"\x00": false, "\xff": false, "pending\x00": false, "a UID that is far too long for any event": false,
	} {
		expectTaken(t, b, uid, want)
		expectTaken(t, book.New(), uid, false)
	}
}

func TestTakenFollowsTheBooking(t *testing.T) {
	b := bookOf(booked(1, 0, api.Pending, named("a")), booked(2, 0, api.Refused, named("a")))
	expectTaken(t, b, "a", true)
	b.Put(booked(1, 0, api.Pending, named("b"))) // another event took its place
	expectTaken(t, b, "a", false)
	expectTaken(t, b, "b", true)
	b.Put(booked(2, 0, api.Confirmed, named("a")))
	expectTaken(t, b, "a", true)
	b.Put(booked(1, 0, api.Confirmed, named("a")))
	expectTaken(t, b, "b", false)
	b.Put(booked(2, 0, api.Cancelled, named("a")))
	expectTaken(t, b, "a", true) // the other one still has it
	b.Put(booked(1, 0, api.Cancelled, named("a")))
	expectTaken(t, b, "a", false)
	b.Put(booked(1, 0, api.Pending, named("a")))
	expectTaken(t, b, "a", true)
	b.Put(booked(1, 0, math.MaxInt, named("c")))
	expectTaken(t, b, "a", true)
	expectTaken(t, b, "c", false)
}
