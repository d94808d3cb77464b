package book

import (
	"slices"
	"sort"

	"hostelry/api"
	"hostelry/deed"
)

// bookings are those in each state, none in the state 0, ascending by their
// IDs. They are kept apart by their states so that the open ones, which are few,
// are not looked for among all that are over.
type bookings [api.Cancelled + 1][]*booking

// get gives the booking with this ID, in whatever state it is.
func (b *bookings) get(id api.ID) (*booking, bool) {
	for _, l := range b {
		if i, ok := find(id, l...); ok {
			return l[i], true
		}
	}
	return nil, false
}

// put adds a booking, and removes the one with the same ID.
func (b *bookings) put(x *booking) {
	b.cut(x.ID)
	l := b[x.State]
	i, _ := find(x.ID, l...)
	b[x.State] = slices.Insert(l, i, x)
}

// cut removes the booking with this ID, if there is one.
func (b *bookings) cut(id api.ID) {
	for state, l := range b {
		if i, ok := find(id, l...); ok {
			b[state] = slices.Delete(l, i, i+1)
		}
	}
}

// in gives the bookings in the first of the states, then those in the next one.
func (b *bookings) in(states ...int) []*booking {
	var out []*booking
	for _, state := range states {
		out = append(out, b[state]...)
	}
	return out
}

// open gives the bookings that are not over.
func (b *bookings) open() []*booking {
	return b.in(api.Pending, api.Confirmed)
}

// copied gives the same bookings in lists of their own.
func (b *bookings) copied() bookings {
	var out bookings
	for state, l := range b {
		out[state] = slices.Clone(l)
	}
	return out
}

// find gives the place of the booking with this ID among ascending ones, and
// true; or the place where it would be, and false.
func find(id api.ID, l ...*booking) (int, bool) {
	i := sort.Search(len(l), func(i int) bool { return !deed.Before(l[i].ID, id) })
	return i, i < len(l) && l[i].ID == id
}

// ordered sorts the bookings by their IDs where they are.
func ordered(l ...*booking) []*booking {
	sort.Slice(l, func(i, j int) bool { return deed.Before(l[i].ID, l[j].ID) })
	return l
}
