package lease

import (
	"hostelry/api"
	"hostelry/claim"
	"hostelry/spans"
)

// rooms are the sets of the minutes of each room.
type rooms [api.MaxRoom]*spans.Set

// own gives all room minutes of the sets.
func (r *rooms) own() []api.Claim {
	var out []api.Claim
	for room, s := range r {
		out = appendRoom(out, room, s.All()...)
	}
	return out
}

// has reports whether the sets have all room minutes of the claims.
func (r *rooms) has(claims ...api.Claim) bool {
	for _, c := range claim.Neat(claims) {
		if !r[c.Room].Has(c.Span) {
			return false
		}
	}
	return true
}

// part gives the room minutes of the claims that the sets have.
func (r *rooms) part(claims ...api.Claim) []api.Claim {
	var out []api.Claim
	// The spans of a room that Neat gives do not touch, so their parts do not either.
	for _, c := range claim.Neat(claims) {
		out = appendRoom(out, c.Room, r[c.Room].Part(c.Span)...)
	}
	return out
}

// lack gives the room minutes of the claims that the sets do not have.
func (r *rooms) lack(claims ...api.Claim) []api.Claim {
	var out []api.Claim
	for _, c := range claim.Neat(claims) {
		out = appendRoom(out, c.Room, r[c.Room].Lack(c.Span)...)
	}
	return out
}

// add adds the room minutes of the claims to the sets.
func (r *rooms) add(claims ...api.Claim) {
	for _, c := range claim.Neat(claims) {
		r[c.Room].Add(c.Span)
	}
}

// cut removes the room minutes of the claims from the sets.
func (r *rooms) cut(claims ...api.Claim) {
	for _, c := range claim.Neat(claims) {
		r[c.Room].Cut(c.Span)
	}
}

// copied gives independent sets that are equal.
func (r *rooms) copied() rooms {
	var out rooms
	for room, s := range r {
		out[room] = s.Copy()
	}
	return out
}

// appendRoom appends a room during each of the spans.
func appendRoom(l []api.Claim, room int, during ...api.Span) []api.Claim {
	for _, s := range during {
		l = append(l, api.Claim{Room: room, Span: s})
	}
	return l
}
