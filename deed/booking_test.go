package deed_test

import (
	"math"
	"testing"

	"hostelry/api"
)

// P14.1: IsBooking

func TestIsBookingOfEachState(t *testing.T) {
	for _, e := range []api.Event{hour(), full(), small(api.DAsk).Event} {
		for _, state := range append(far(), -1, 0, api.Pending, api.Confirmed, api.Refused, api.Cancelled, api.Cancelled+1) {
			want := state == api.Confirmed || state == api.Cancelled
			expectBooking(t, api.Booking{ID: id(1, 0), State: state, Event: e}, want)
			expectBooking(t, api.Booking{ID: id(api.MaxSeq, lastSite), State: state, Event: e}, want)
		}
	}
	for state := -1000; state <= 1000; state++ {
		expectBooking(t, booking(3, 1, state), state == 2 || state == 4)
	}
}

func TestIsBookingOfEachID(t *testing.T) {
	for _, state := range []int{api.Confirmed, api.Cancelled} {
		for _, seq := range append(far(), -1, 0, 1, api.MaxSeq, api.MaxSeq+1) {
			for _, site := range append(far(), -1, 0, lastSite, api.MaxSite) {
				want := seq >= 1 && seq <= api.MaxSeq && site >= 0 && site <= lastSite
				expectBooking(t, booking(seq, site, state), want)
			}
		}
	}
}

func TestIsBookingOfWhatIsNoEvent(t *testing.T) {
	for _, e := range noEvents() {
		for state := -1; state <= api.Cancelled+1; state++ {
			expectBooking(t, api.Booking{ID: id(3, 1), State: state, Event: e}, false)
		}
	}
	expectBooking(t, api.Booking{}, false)
	expectBooking(t, api.Booking{Event: hour()}, false)
	expectBooking(t, api.Booking{ID: id(math.MinInt, math.MinInt), State: math.MinInt}, false)
}

// Whether an event can be let is not asked: that it comes at all, ends before
// the last minute, or is over when it begins again.
func TestIsBookingOfWhatCanNotBeLet(t *testing.T) {
	for _, change := range []func(e *api.Event){
		func(e *api.Event) { e.Start, e.Long = lastMinute, api.MaxLong },
		func(e *api.Event) { e.Rule = api.Rule{Freq: api.Daily, Every: 1, Until: 0} },
		func(e *api.Event) { e.Rule, e.Long = api.Rule{Freq: api.Daily, Every: 1, Count: 3, Until: -1}, 1441 },
		func(e *api.Event) { e.Rule = api.Rule{Freq: api.Daily, Every: 1, Until: -1} },
	} {
		e := with(hour(), apart, change)
		expectBooking(t, api.Booking{ID: id(3, 1), State: api.Confirmed, Event: e}, true)
		expectIs(t, api.Deed{Kind: api.DAsk, ID: id(3, 1), Event: e}, true)
	}
}

// P14.1: SameBooking

func TestSameBookingOfEachPair(t *testing.T) {
	var l []api.Booking
	for _, event := range []api.Event{hour(), full(), {}} {
		for _, i := range []api.ID{id(1, 0), id(0, 1), id(3, 1), id(3, 2), id(4, 1), id(-1, -1)} {
			for _, state := range []int{-1, 0, api.Pending, api.Confirmed, api.Refused, api.Cancelled, math.MaxInt} {
				l = append(l, api.Booking{ID: i, State: state, Event: event})
			}
		}
	}
	for i, a := range l {
		for j, b := range l {
			expectSameBooking(t, bookingApart(a), bookingApart(b), i == j)
		}
	}
}

func TestSameBookingButForOneField(t *testing.T) {
	for _, b := range []api.Booking{
		booking(1, 0, api.Confirmed), great(api.DHear).Book, booking(3, 1, api.Cancelled), {},
		{ID: id(0, -9), State: 99, Event: api.Event{Except: []int{9, 9}}},
	} {
		expectSameBooking(t, b, bookingApart(b), true)
		for i, c := range bookingChanges() {
			changed := with(b, bookingApart, c.do)
			expectSameBooking(t, b, changed, false)
			expectSameBooking(t, changed, bookingApart(changed), true)
			for _, other := range bookingChanges()[:i] {
				expectSameBooking(t, changed, with(b, bookingApart, other.do), false)
			}
		}
	}
}

func TestSameBookingOfLists(t *testing.T) {
	for _, x := range listChanges() {
		b := api.Booking{ID: id(3, 1), State: api.Confirmed, Event: full()}
		expectSameBooking(t, b, with(b, bookingApart, func(b *api.Booking) { x(&b.Event) }), false)
	}
	for _, empty := range emptyLists() {
		b := booking(3, 1, api.Confirmed)
		expectSameBooking(t, b, with(b, bookingApart, func(b *api.Booking) { empty(&b.Event) }), true)
		expectBooking(t, with(b, bookingApart, func(b *api.Booking) { empty(&b.Event) }), true)
		expectSameBooking(t, api.Booking{}, with(api.Booking{}, bookingApart, func(b *api.Booking) { empty(&b.Event) }), true)
	}
}
