package book_test

import (
	"slices"
	"testing"

	"hostelry/api"
	"hostelry/book"
	"hostelry/claim"
)

// P17.1 and P17.2: Busy

func TestBusyOfEachState(t *testing.T) {
	hour := list(of(3, 2070, 2130))
	for _, state := range states() {
		b := bookOf(booked(1, 0, state))
		expectBusy(t, b, nil)
		expectBusy(t, b, list())
		if state != api.Confirmed {
			expectBusy(t, b, hour)
			expectBusy(t, b, whole())
			continue
		}
		expectBusy(t, b, hour, hour...)
		expectBusy(t, b, whole(), hour...)
	}
}

func TestBusyOfOneBooking(t *testing.T) {
	b := bookOf(booked(1, 0, api.Confirmed))
	for _, c := range []struct{ c, want []api.Claim }{
		{list(of(3, 2070, 2130)), list(of(3, 2070, 2130))},
		{list(of(3, 2080, 2090)), list(of(3, 2080, 2090))}, // within
		{list(of(3, 2070, 2071)), list(of(3, 2070, 2071))},
		{list(of(3, 2129, 2130)), list(of(3, 2129, 2130))},
		{list(of(3, 2069, 2070)), nil}, // they touch only
		{list(of(3, 2130, 2131)), nil},
		{list(of(3, 0, 2070), of(3, 2130, api.MaxMinute)), nil},
		{list(of(3, 2000, 2080)), list(of(3, 2070, 2080))}, // in part
		{list(of(3, 2120, 2200)), list(of(3, 2120, 2130))},
		{list(of(3, 2069, 2131)), list(of(3, 2070, 2130))},
		{list(of(3, 0, 10), of(3, 5000, 5060)), nil}, // no booking has them
		{list(of(2, 2070, 2130), of(4, 2070, 2130), of(0, 0, api.MaxMinute)), nil},
		{list(of(3, 2120, 2200), of(3, 2000, 2080)), list(of(3, 2070, 2080), of(3, 2120, 2130))}, // not in order
		{list(of(3, 2080, 2090), of(3, 2070, 2080)), list(of(3, 2070, 2090))},                    // not neat
		{list(of(3, 2080, 2110), of(3, 2090, 2120)), list(of(3, 2080, 2120))},                    // they overlap
		{list(of(3, 2080, 2090), of(3, 2080, 2090)), list(of(3, 2080, 2090))},                    // twice
		{list(of(3, 2080, 2085), of(3, 0, api.MaxMinute), of(3, 2070, 2130)), list(of(3, 2070, 2130))},
		{list(of(3, 2080, 2090), of(5, 2080, 2090), of(3, 2085, 2095)), list(of(3, 2080, 2095))},
		{whole(), list(of(3, 2070, 2130))},
		{none(), nil},
	} {
		expectBusy(t, b, c.c, c.want...)
		expectBusy(t, b, slices.Concat(c.c, c.c), c.want...)
		expectBusy(t, b, slices.Concat(none(), c.c, none()), c.want...)
		turned := slices.Clone(c.c)
		slices.Reverse(turned)
		expectBusy(t, b, turned, c.want...)
		expectBusy(t, book.New(), c.c)
	}
	for _, no := range none() {
		expectBusy(t, b, list(no))
		expectBusy(t, b, list(no, of(3, 2100, 2200), no), of(3, 2100, 2130))
	}
}

func TestBusyOfSeveralBookings(t *testing.T) {
	b := bookOf(
		booked(1, 0, api.Confirmed),                                   // room 3, 2070 to 2130
		booked(1, 1, api.Confirmed, from(2130), in(3, 5)),             // behind it
		booked(2, 0, api.Confirmed, from(2200), in(0, 3)),             // apart from both
		booked(2, 1, api.Confirmed, from(2100), in(5)),                // over one of them
		booked(3, 0, api.Pending, from(3000), in(1, 3)),               // not yet
		booked(4, 0, api.Refused, from(3000), in(2, 3)),               // not at all
		booked(5, 0, api.Cancelled, from(2300), in(0, 3, 5)),          // no more
		booked(6, 0, api.Confirmed, from(lastMinute), long(1), in(7)), // the last minute of all
		booked(7, 3, api.Confirmed, from(0), long(1), in(7)),          // and the first one
	)
	let := list(
		of(0, 2200, 2260), of(3, 2070, 2190), of(3, 2200, 2260), of(5, 2100, 2190),
		of(7, 0, 1), of(7, lastMinute, api.MaxMinute),
	)
	expectBusy(t, b, whole(), let...)
	expectBusy(t, b, let, let...)
	expectBusy(t, b, claim.Minus(whole(), let))
	expectBusy(t, b, list(of(3, 2100, 2150)), of(3, 2100, 2150)) // two in part
	expectBusy(t, b, list(of(3, 2100, 2210)), of(3, 2100, 2190), of(3, 2200, 2210))
	expectBusy(t, b, list(of(5, 2000, 2140), of(3, 2185, 2201)), of(3, 2185, 2190), of(3, 2200, 2201), of(5, 2100, 2140))
	expectBusy(t, b, list(of(3, 2190, 2200), of(0, 2260, 3000), of(5, 2000, 2100))) // they touch only
	expectBusy(t, b, list(of(1, 0, 9000), of(2, 0, 9000), of(3, 2999, 3060), of(4, 0, 9000)))
	expectBusy(t, b, list(of(7, 0, api.MaxMinute)), of(7, 0, 1), of(7, lastMinute, api.MaxMinute))
	expectBusy(t, b, list(of(7, 1, lastMinute)))
}

// Two confirmed bookings of a book may have a room minute in common. When one of
// them is over, the other one still has it.
func TestBusyOfBookingsThatOverlap(t *testing.T) {
	b := bookOf(booked(1, 0, api.Confirmed), booked(1, 1, api.Confirmed), booked(2, 0, api.Confirmed, from(2100)))
	expectBusy(t, b, whole(), of(3, 2070, 2160))
	b.Put(booked(1, 0, api.Cancelled))
	expectBusy(t, b, whole(), of(3, 2070, 2160))
	b.Put(booked(2, 0, api.Pending, from(2100)))
	expectBusy(t, b, whole(), of(3, 2070, 2130))
	b.Put(booked(1, 1, api.Cancelled))
	expectBusy(t, b, whole())
	b.Put(booked(2, 0, api.Confirmed, from(2100)))
	expectBusy(t, b, whole(), of(3, 2100, 2160))
}

func TestBusyOfABookingThatRecurs(t *testing.T) {
	b := bookOf(booked(1, 0, api.Confirmed, daily(3), in(2, 3), but(2070+api.Day)))
	third := 2070 + 2*api.Day
	let := list(of(2, 2070, 2130), of(2, third, third+60), of(3, 2070, 2130), of(3, third, third+60))
	expectBusy(t, b, whole(), let...)
	expectBusy(t, b, list(of(3, 2070+api.Day, 2130+api.Day))) // but not then
	expectBusy(t, b, list(of(2, 2100, third+30)), of(2, 2100, 2130), of(2, third, third+30))
	expectBusy(t, b, list(of(3, third+3*api.Day, third+9*api.Day)))
	b.Put(booked(1, 0, api.Confirmed, daily(3), long(api.Day)))
	expectBusy(t, b, whole(), of(3, 2070, 2070+3*api.Day)) // each touches the next one
	b.Put(booked(1, 0, api.Confirmed, most))
	all := b.Busy(whole())
	if want, _ := claim.Of(one(most)); !slices.Equal(all, want) || len(all) != api.MaxClaims {
		t.Errorf("Busy = %v, want %v", all, want)
	}
	b.Put(booked(1, 0, api.Confirmed, full))
	if want, _ := claim.Of(one(full)); !slices.Equal(b.Busy(whole()), want) {
		t.Errorf("Busy = %v, want %v", b.Busy(whole()), want)
	}
}

func TestBusyFollowsTheBooking(t *testing.T) {
	hour := of(3, 2070, 2130)
	for _, was := range states() {
		for _, state := range states() {
			b := bookOf(booked(1, 0, was), booked(1, 0, state))
			if state == api.Confirmed {
				expectBusy(t, b, whole(), hour)
			} else {
				expectBusy(t, b, whole())
			}
			b.Put(booked(1, 0, api.Confirmed))
			expectBusy(t, b, whole(), hour)
			b.Put(booked(1, 0, api.Cancelled)) // it is busy no more
			expectBusy(t, b, whole())
		}
	}
	b := bookOf(booked(1, 0, api.Confirmed))
	b.Put(booked(1, 0, api.Confirmed, in(5), from(2100)))
	expectBusy(t, b, whole(), of(5, 2100, 2160)) // of the event before nothing is left
	b.Put(booked(1, 0, api.Confirmed, in(6), long(0)))
	expectBusy(t, b, whole(), of(5, 2100, 2160)) // what is not an event takes no place
	b.Put(booked(1, 1, api.Confirmed))
	expectBusy(t, b, whole(), hour, of(5, 2100, 2160))
}
