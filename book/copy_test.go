package book_test

import (
	"slices"
	"testing"

	"hostelry/api"
	"hostelry/book"
)

// P17.1: Copy

// kinds are books of many kinds, each by what has been put, in this order.
func kinds() [][]api.Booking {
	out := [][]api.Booking{nil, some(), noBookings(), slices.Concat(noBookings(), some(), noBookings())}
	for _, state := range states() {
		out = append(out, []api.Booking{booked(1, 0, state)}, []api.Booking{booked(1, 0, state, full)})
		var changed []api.Booking
		for _, x := range some() {
			x.State = state
			changed = append(changed, x)
		}
		out = append(out, append(some(), changed...), append(changed, some()...))
	}
	turned := some()
	slices.Reverse(turned)
	return append(out, turned)
}

// changes are all that can be done to a book, one behind the other.
func changes() []api.Booking {
	var out []api.Booking
	for _, i := range []api.ID{id(1, 0), id(1, 1), id(2, 0), id(5, 3), id(api.MaxSeq, lastSite)} {
		for _, state := range states() {
			out = append(out,
				api.Booking{ID: i, State: state, Event: one()},
				api.Booking{ID: i, State: state, Event: one(full)},
				api.Booking{ID: i, State: state, Event: one(named("changed"), from(2100), in(1, 3))},
			)
		}
	}
	return append(out, booked(1, 0, 0), booked(0, 1, api.Pending), booked(1, 1, api.Confirmed, long(0)))
}

func TestCopyIsEqual(t *testing.T) {
	for _, l := range kinds() {
		b, want := bookOf(l...), paperOf(l...)
		expect(t, b.Copy(), want)
		expect(t, b.Copy().Copy(), want)
		expect(t, b, want)
		other := b.Copy()
		for _, x := range changes() { // and in all that it does next
			b.Put(x)
			other.Put(x)
			want.put(x)
		}
		expect(t, b, want)
		expect(t, other, want)
		if t.Failed() {
			return
		}
	}
}

func TestCopyAndBookTellNothingOfEachOther(t *testing.T) {
	for _, l := range kinds() {
		want := paperOf(l...)
		for _, x := range changes() {
			changed := paperOf(append(slices.Clone(l), x)...)
			b := bookOf(l...)
			other := b.Copy()
			third := other.Copy()
			other.Put(x)
			for b, want := range map[*book.Book]paper{b: want, other: changed, third: want, b.Copy(): want} {
				expectBookings(t, "All", b.All(), want.ordered())
			}
			b.Put(x)
			expectBookings(t, "All", third.All(), want.ordered())
			third.Put(x)
			for _, b := range []*book.Book{b, other, third} {
				expectBookings(t, "All", b.All(), changed.ordered())
			}
		}
		if t.Failed() {
			return
		}
	}
}

// Two copies of one book go on behind the same bookings, and in their midst.
func TestCopiesOfOneBookGoOnApart(t *testing.T) {
	for n := range 40 { // at some of them there is room behind the bookings
		b := book.New()
		var l []api.Booking
		for i := range n {
			l = append(l, booked(2+2*i, 0, api.Confirmed, from(100*i)))
			b.Put(l[i])
		}
		for _, seq := range []int{1, n + 1 - n%2, 2 * n, 2*n + 5} {
			if seq < 1 {
				continue
			}
			first, second := b.Copy(), b.Copy()
			x, y, z := booked(seq, 0, api.Confirmed, in(1)), booked(seq, 0, api.Confirmed, in(2)), booked(seq, 0, api.Cancelled, in(4))
			first.Put(x)
			second.Put(y)
			third := first.Copy()
			third.Put(z)
			for b, x := range map[*book.Book]api.Booking{first: x, second: y, third: z} {
				expect(t, b, paperOf(append(slices.Clone(l), x)...))
			}
			expect(t, b, l)
		}
		if t.Failed() {
			return
		}
	}
}

func TestCopiesAfterEachPut(t *testing.T) {
	b := book.New()
	var copies []*book.Book
	var wants []paper
	var want paper
	for _, x := range slices.Concat(some(), changes(), some()) {
		copies, wants = append(copies, b.Copy()), append(wants, slices.Clone(want))
		b.Put(x)
		want.put(x)
	}
	for i, c := range copies {
		expect(t, c, wants[i])
		c.Put(booked(77, 0, api.Confirmed, named("last")))
	}
	expect(t, b, want)
	for i, c := range copies {
		expect(t, c, append(wants[i], booked(77, 0, api.Confirmed, named("last"))))
	}
}
