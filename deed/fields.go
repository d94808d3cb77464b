package deed

import (
	"slices"

	"hostelry/api"
	"hostelry/claim"
	"hostelry/event"
)

// alike reports whether all fields of the deeds are equal.
func alike(deeds ...api.Deed) bool {
	for i := 1; i < len(deeds); i++ {
		if !equal(deeds[i-1], deeds[i]) {
			return false
		}
	}
	return true
}

func equal(a, b api.Deed) bool {
	return a.Kind == b.Kind && a.ID == b.ID && event.Same(a.Event, b.Event) &&
		slices.Equal(a.Claims, b.Claims) && a.Peer == b.Peer && a.N == b.N &&
		SameBooking(a.Book, b.Book)
}

// areNeat reports whether the claims may be those of a deed: some, but not too
// many, and in their unique form.
func areNeat(claims ...api.Claim) bool {
	// The length is asked first, so that no list that is too long is sorted.
	return len(claims) > 0 && len(claims) <= api.MaxClaims && slices.Equal(claims, claim.Neat(claims))
}

// isSeq reports whether a booking, a gift or a piece of news can have this number.
func isSeq(n int) bool {
	return n >= 1 && n <= api.MaxSeq
}

// isPeer reports whether a site can have this number.
func isPeer(site int) bool {
	return site >= 0 && site < api.MaxSite
}
