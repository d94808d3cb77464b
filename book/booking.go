package book

import (
	"hostelry/api"
	"hostelry/event"
)

// booking is one that is in a book. It is never changed after it was made, so
// that copies of the book can share it.
type booking struct {
	api.Booking
	claims []api.Claim // none unless it is confirmed, as no other is busy
}

// newBooking expects the claims of the event, which it keeps. Of x it keeps no memory.
func newBooking(x api.Booking, claims []api.Claim) *booking {
	if x.State != api.Confirmed {
		claims = nil
	}
	return &booking{own(x), claims}
}

// own gives an equal booking whose slices are its own.
func own(x api.Booking) api.Booking {
	x.Event = event.Copy(x.Event)
	return x
}

// told gives the bookings in memory that a caller can have.
func told(l ...*booking) []api.Booking {
	out := make([]api.Booking, 0, len(l))
	for _, x := range l {
		out = append(out, own(x.Booking))
	}
	return out
}

// claimed gives the claims of all that are confirmed.
func claimed(l ...*booking) []api.Claim {
	var out []api.Claim
	for _, x := range l {
		out = append(out, x.claims...)
	}
	return out
}

// isState reports whether a booking can be in this state.
func isState(state int) bool {
	return state >= api.Pending && state <= api.Cancelled
}
