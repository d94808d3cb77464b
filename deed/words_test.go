package deed_test

import (
	"math/rand"
	"reflect"
	"slices"
	"testing"

	"hostelry/api"
	"hostelry/claim"
	"hostelry/deed"
	"hostelry/event"
)

// isByWords reads the promises as they stand, field by field.
func isByWords(d api.Deed) bool {
	return slices.Contains(kinds(), d.Kind) &&
		asUsed(uses(d.Kind, "ID"), isID(d.ID), d.ID == api.ID{}) &&
		asUsed(uses(d.Kind, "Event"), event.Is(d.Event), isZero(d.Event)) &&
		asUsed(uses(d.Kind, "Claims"), areClaims(d.Claims), len(d.Claims) == 0) &&
		asUsed(uses(d.Kind, "Peer"), d.Peer >= 0 && d.Peer <= 3, d.Peer == 0) &&
		asUsed(uses(d.Kind, "N"), d.N >= 1 && d.N <= 1000000, d.N == 0) &&
		asUsed(uses(d.Kind, "Book"), isBooking(d.Book) && d.Book.ID.Site == d.Peer,
			d.Book.ID == api.ID{} && d.Book.State == 0 && isZero(d.Book.Event))
}

// asUsed tells which of two things is asked of a field.
func asUsed(used, isGood, isNothing bool) bool {
	if used {
		return isGood
	}
	return isNothing
}

func isID(i api.ID) bool {
	return i.Seq >= 1 && i.Seq <= 1000000 && i.Site >= 0 && i.Site <= 3
}

func isBooking(b api.Booking) bool {
	return isID(b.ID) && event.Is(b.Event) && (b.State == 2 || b.State == 4)
}

func isZero(e api.Event) bool {
	r := e.Rule
	return e.UID == "" && e.Text == "" && e.Start == 0 && e.Long == 0 && len(e.Rooms) == 0 && len(e.Except) == 0 &&
		r.Freq == 0 && r.Every == 0 && r.Count == 0 && r.Until == 0 &&
		len(r.ByDay) == 0 && len(r.ByMonthDay) == 0 && len(r.ByMonth) == 0
}

func areClaims(l []api.Claim) bool {
	return len(l) >= 1 && len(l) <= 160 && slices.Equal(l, claim.Neat(l))
}

// one picks one of several things.
func one[T any](rnd *rand.Rand, l ...T) T {
	return l[rnd.Intn(len(l))]
}

// someDeed gives one of all kinds, often with a field or two that it can't have.
func someDeed(rnd *rand.Rand) api.Deed {
	d := api.Deed{
		Kind:   rnd.Intn(10),
		ID:     id(one(rnd, 1, 2, 3, api.MaxSeq), one(rnd, 0, 1, lastSite)),
		Event:  one(rnd, hour(), full()),
		Claims: one(rnd, neat(1), neat(2), neat(api.MaxClaims), list(of(0, 0, 1))),
		Peer:   one(rnd, 0, 1, lastSite),
		N:      one(rnd, 1, 2, api.MaxSeq),
	}
	d.Book = booking(one(rnd, 1, 2), d.Peer, one(rnd, api.Confirmed, api.Cancelled))
	if rnd.Intn(20) > 0 {
		d = only(d)
	}
	for range rnd.Intn(3) {
		spoil(rnd, &d)
	}
	return d
}

// spoil changes one field, often to what it can't be.
func spoil(rnd *rand.Rand, d *api.Deed) {
	number := one(rnd, -1, 0, 0, 1, 2, 3, 4, api.MaxSeq, api.MaxSeq+1)
	switch rnd.Intn(9) {
	case 0:
		d.Kind = number
	case 1:
		d.ID.Seq = number
	case 2:
		d.ID.Site = number
	case 3:
		d.Event = one(rnd, noEvents()...)
	case 4:
		d.Claims = one(rnd, nil, list(), neat(api.MaxClaims+1), list(of(0, 5, 9), of(0, 0, 5)), list(of(1, 0, 0)), list(of(1, 0, 9), of(2, 0, 9)))
	case 5:
		d.Peer = number
	case 6:
		d.N = number
	case 7:
		d.Book.State = number
	case 8:
		d.Book = one(rnd, api.Booking{}, booking(number, d.Peer, api.Confirmed), booking(1, number, api.Cancelled))
	}
}

func TestIsByTheWordsOfTheChapter(t *testing.T) {
	rnd := rand.New(rand.NewSource(14))
	seen := map[int][2]int{} // how many of each kind are none, and are one
	for range 60000 {
		d := someDeed(rnd)
		want := isByWords(d)
		expectIs(t, d, want)
		expectBooking(t, d.Book, isBooking(d.Book))
		expect(t, "IsID", deed.IsID, d.ID, isID(d.ID))
		if t.Failed() {
			return
		}
		n := seen[d.Kind]
		n[count(want)]++
		seen[d.Kind] = n
	}
	for _, kind := range kinds() {
		if n := seen[kind]; n[0] < 1000 || n[1] < 1000 {
			t.Errorf("kind %d: %v are none and one, which is too few", kind, n)
		}
	}
}

func TestSameByTheWordsOfTheChapter(t *testing.T) {
	rnd := rand.New(rand.NewSource(141))
	for range 20000 {
		a := someDeed(rnd)
		b := deedApart(a)
		for range rnd.Intn(3) {
			spoil(rnd, &b)
		}
		expectSame(t, a, b, reflect.DeepEqual(settled(a), settled(b)))
		expectSameBooking(t, a.Book, b.Book, reflect.DeepEqual(settled(api.Deed{Book: a.Book}), settled(api.Deed{Book: b.Book})))
		if t.Failed() {
			return
		}
	}
}

// settled gives the deed with nil for each list that is empty, as Go's own
// comparison takes them for different.
func settled(d api.Deed) api.Deed {
	d = deedApart(d)
	if len(d.Claims) == 0 {
		d.Claims = nil
	}
	for _, e := range []*api.Event{&d.Event, &d.Book.Event} {
		settle(&e.Rooms)
		settle(&e.Except)
		settle(&e.Rule.ByDay)
		settle(&e.Rule.ByMonthDay)
		settle(&e.Rule.ByMonth)
	}
	return d
}

func settle[E any](l *[]E) {
	if len(*l) == 0 {
		*l = nil
	}
}

// roomy gives the deed with spare capacity behind each of its lists, and these lists with it.
func roomy(d api.Deed) (api.Deed, []any) {
	claims := append(slices.Clone(d.Claims), of(7, 7, 7), of(6, 6, 6))
	d.Claims = claims[:len(d.Claims)]
	lists := []any{claims}
	for _, e := range []*api.Event{&d.Event, &d.Book.Event} {
		rooms, except := append(slices.Clone(e.Rooms), 99, 98), append(slices.Clone(e.Except), 97, 96)
		byDay := append(slices.Clone(e.Rule.ByDay), api.Weekday{N: 95, Day: 94})
		byMonthDay, byMonth := append(slices.Clone(e.Rule.ByMonthDay), 93), append(slices.Clone(e.Rule.ByMonth), 92)
		lists = append(lists, rooms, except, byDay, byMonthDay, byMonth)
		e.Rooms, e.Except = rooms[:len(e.Rooms)], except[:len(e.Except)]
		e.Rule.ByDay = byDay[:len(e.Rule.ByDay)]
		e.Rule.ByMonthDay, e.Rule.ByMonth = byMonthDay[:len(e.Rule.ByMonthDay)], byMonth[:len(e.Rule.ByMonth)]
	}
	return d, lists
}

// The arguments are as they were, behind their ends too, and the answers come again.
func TestArgumentsAreLeft(t *testing.T) {
	l := append(deeds(), crammed(api.DGive), crammed(api.DBook), api.Deed{})
	for n := range 3 { // claims that are not neat
		l = append(l, api.Deed{Kind: api.DGive, Claims: slices.Concat(neat(5), neat(n)), Peer: 1, N: 3})
	}
	for _, was := range l {
		a, left := roomy(was)
		b, right := roomy(was)
		_, want := roomy(was)
		for range 3 {
			expectIs(t, a, isByWords(was))
			expectSame(t, a, b, true)
			expectBooking(t, a.Book, isBooking(was.Book))
			expectSameBooking(t, a.Book, b.Book, true)
		}
		if !reflect.DeepEqual(left, want) || !reflect.DeepEqual(right, want) {
			t.Errorf("%+v has been changed: %v, %v", was, left, right)
		}
	}
}

// Two deeds that share their lists are told apart, and alike, as any others.
func TestArgumentsThatShare(t *testing.T) {
	lists := neat(9)
	for i := range 9 {
		for j := range 9 {
			a := api.Deed{Kind: api.DGive, Claims: lists[:i], Peer: 1, N: 3}
			b := api.Deed{Kind: api.DGive, Claims: lists[:j], Peer: 1, N: 3}
			expectIs(t, a, i > 0)
			expectSame(t, a, b, i == j)
		}
	}
	e := full()
	d := api.Deed{Kind: api.DHear, Peer: 1, N: 3, Event: e, Book: api.Booking{ID: id(3, 1), State: api.Confirmed, Event: e}}
	expectIs(t, d, false)
	expectSame(t, d, d, true)
}

// Nothing is kept: what is changed afterwards is seen, and what is told of one deed does not hang on another one.
func TestNothingIsKept(t *testing.T) {
	d := great(api.DGive)
	expectIs(t, d, true)
	d.Claims[0], d.Claims[1] = d.Claims[1], d.Claims[0]
	expectIs(t, d, false)
	d.Claims[0], d.Claims[1] = d.Claims[1], d.Claims[0]
	expectIs(t, great(api.DBook), true)
	expectIs(t, d, true)

	b := great(api.DBook)
	expectIs(t, b, true)
	b.Event.Rooms[0] = 7
	expectIs(t, b, false)
	expectSame(t, b, great(api.DBook), false)
	b.Event.Rooms[0] = 0
	expectIs(t, b, true)
	expectSame(t, b, great(api.DBook), true)
}

// The signatures are those of the chapter.
var (
	_ func(d api.Deed) bool       = deed.Is
	_ func(a, b api.Deed) bool    = deed.Same
	_ func(id api.ID) bool        = deed.IsID
	_ func(a, b api.ID) bool      = deed.Before
	_ func(b api.Booking) bool    = deed.IsBooking
	_ func(a, b api.Booking) bool = deed.SameBooking
)
