package book_test

import (
	"cmp"
	"math"
	"slices"
	"strings"
	"testing"

	"hostelry/api"
	"hostelry/book"
	"hostelry/claim"
	"hostelry/deed"
	"hostelry/event"
	"hostelry/rule"
)

const (
	lastMinute = api.MaxMinute - 1
	lastSite   = api.MaxSite - 1
)

// id is short for the literals of the tables.
func id(seq, site int) api.ID {
	return api.ID{Seq: seq, Site: site}
}

// of is short for the literals of the tables.
func of(room, from, to int) api.Claim {
	return api.Claim{Room: room, Span: api.Span{From: from, To: to}}
}

// list is short for the literals of the tables.
func list(l ...api.Claim) []api.Claim {
	return l
}

// one is one hour in room 3, at 10:30 on the second of January 2000.
func one(does ...func(e *api.Event)) api.Event {
	e := api.Event{UID: "a-1", Start: 2070, Long: 60, Rooms: []int{3}, Rule: rule.Once()}
	for _, f := range does {
		f(&e)
	}
	return e
}

// booked is a booking of what one gives.
func booked(seq, site, state int, does ...func(e *api.Event)) api.Booking {
	return api.Booking{ID: id(seq, site), State: state, Event: one(does...)}
}

func named(uid string) func(e *api.Event) {
	return func(e *api.Event) { e.UID = uid }
}

func text(text string) func(e *api.Event) {
	return func(e *api.Event) { e.Text = text }
}

func from(start int) func(e *api.Event) {
	return func(e *api.Event) { e.Start = start }
}

func long(n int) func(e *api.Event) {
	return func(e *api.Event) { e.Long = n }
}

func in(rooms ...int) func(e *api.Event) {
	return func(e *api.Event) { e.Rooms = rooms }
}

func by(r api.Rule) func(e *api.Event) {
	return func(e *api.Event) { e.Rule = r }
}

// daily makes an event one of each day.
func daily(count int) func(e *api.Event) {
	return by(api.Rule{Freq: api.Daily, Every: 1, Count: count, Until: -1})
}

func but(except ...int) func(e *api.Event) {
	return func(e *api.Event) { e.Except = except }
}

// full makes an event one that has all fields and something in each list.
func full(e *api.Event) {
	e.UID, e.Text = "Az0-Zy9x-12B", `a,b;c\d`+"\n"+strings.Repeat("x", 31)+"~"
	e.Start, e.Long, e.Rooms = 2070, 90, []int{0, 1, 6, 7}
	e.Rule = api.Rule{
		Freq: api.Monthly, Every: 2, Until: 600 * api.Day,
		ByDay:      []api.Weekday{{N: -1, Day: 0}, {N: 0, Day: 2}, {N: 2, Day: 6}},
		ByMonthDay: []int{-31, -1, 1, 4, 5, 31},
		ByMonth:    []int{1, 3, 5, 12},
	}
	e.Except = []int{0, 2070 + 3*api.Day, lastMinute}
}

// most makes an event one that claims as much as one can.
func most(e *api.Event) {
	daily(api.MaxOcc)(e)
	e.Rooms, e.Long = []int{0, 2, 4, 6}, api.Day-1
}

func states() []int {
	return []int{api.Pending, api.Confirmed, api.Refused, api.Cancelled}
}

// noStates are numbers that no state has.
func noStates() []int {
	return []int{math.MinInt, math.MinInt32, -2, -1, 0, 5, 6, math.MaxInt32, 1 << 32, 1<<32 + 1, 1<<32 + 2, math.MaxInt}
}

// noIDs are such as no booking has, each for its Seq or its Site alone, or for both.
func noIDs() []api.ID {
	var out []api.ID
	seqs := []int{math.MinInt, math.MinInt32, -api.MaxSeq, -1, 0, api.MaxSeq + 1, 1 << 32, 1<<32 + 1, math.MaxInt}
	sites := []int{math.MinInt, math.MinInt32, -api.MaxSite, -1, api.MaxSite, api.MaxSite + 1, 1 << 32, 1<<32 + 1, math.MaxInt}
	for _, seq := range seqs {
		for site := range api.MaxSite {
			out = append(out, id(seq, site))
		}
		for _, site := range sites {
			out = append(out, id(seq, site), id(1, site), id(2, site), id(api.MaxSeq, site))
		}
	}
	return out
}

// noEvents are such as are none, each for one reason, the zero event among them.
func noEvents() []api.Event {
	return []api.Event{
		{},
		{Rule: rule.Once()},
		one(named("")),
		one(named("a b")),
		one(named(strings.Repeat("a", api.MaxUID+1))),
		one(text("\t")),
		one(text(strings.Repeat("a", api.MaxText+1))),
		one(from(-1)),
		one(from(api.MaxMinute)),
		one(from(math.MinInt)),
		one(from(math.MaxInt)),
		one(long(0)),
		one(long(-1)),
		one(long(api.MaxLong + 1)),
		one(long(math.MaxInt)),
		one(in()),
		one(in(-1)),
		one(in(api.MaxRoom)),
		one(in(3, 3)),
		one(in(4, 3)),
		one(in(0, 1, 2, 3, 4)),
		one(by(api.Rule{})),
		one(by(api.Rule{Freq: 5, Every: 1, Until: -1})),
		one(daily(-1)),
		one(daily(api.MaxOcc + 1)),
		one(but(0)),
		one(daily(3), but(5, 5)),
		one(daily(3), but(-1)),
		one(daily(3), but(api.MaxMinute)),
	}
}

// neverEvents are events without claims, each with the error that claim's Of returns.
func neverEvents() map[api.Errno][]api.Event {
	february := api.Rule{Freq: api.Monthly, Every: 1, Until: -1, ByMonthDay: []int{30}, ByMonth: []int{2}}
	return map[api.Errno][]api.Event{
		api.ErrEmpty: {
			one(by(february)),
			one(daily(1), but(2070)),
			one(daily(3), but(2070, 2070+api.Day, 2070+2*api.Day)),
			one(by(api.Rule{Freq: api.Daily, Every: 1, Until: 2069})),
		},
		api.ErrMany: {
			one(by(api.Rule{Freq: api.Daily, Every: 1, Until: -1})),
			one(by(api.Rule{Freq: api.Daily, Every: 1, Until: 2070 + 40*api.Day})),
			one(daily(2), long(api.Day+1)), // it overlaps itself
			one(daily(3), long(api.Day+1)),
			one(daily(3), long(2*api.Day+1), but(2070+api.Day)),
		},
		api.ErrRange: {
			one(from(lastMinute), long(2)),
			one(from(lastMinute), long(api.MaxLong)),
			one(from(lastMinute-api.Day), daily(2), long(2)),
		},
	}
}

// noBookings are those that Put does nothing for, each for one reason, with an ID among 1 to 3.
func noBookings() []api.Booking {
	var out []api.Booking
	for _, no := range noIDs() {
		out = append(out, api.Booking{ID: no, State: api.Confirmed, Event: one()})
	}
	for i, state := range noStates() {
		out = append(out, booked(1+i%3, i%api.MaxSite, state))
	}
	for i, e := range faultyEvents() {
		out = append(out, api.Booking{ID: id(1+i%3, i%api.MaxSite), State: states()[i%4], Event: e})
	}
	return append(out, api.Booking{})
}

// faultyEvents are all that no booking has.
func faultyEvents() []api.Event {
	out := noEvents()
	for _, err := range []api.Errno{api.ErrEmpty, api.ErrMany, api.ErrRange} {
		out = append(out, neverEvents()[err]...)
	}
	return out
}

// bookOf gives a book into which these have been put, in this order.
func bookOf(l ...api.Booking) *book.Book {
	b := book.New()
	for _, x := range l {
		b.Put(x)
	}
	return b
}

// paper is a book by the words of the chapter: a plain list in any order.
type paper []api.Booking

func paperOf(l ...api.Booking) paper {
	var p paper
	for _, x := range l {
		p.put(x)
	}
	return p
}

func (p *paper) put(x api.Booking) {
	if x.ID.Seq < 1 || x.ID.Seq > 1000000 || x.ID.Site < 0 || x.ID.Site > 3 {
		return
	}
	if !event.Is(x.Event) || !slices.Contains(states(), x.State) {
		return
	}
	if _, err := claim.Of(x.Event); err != api.OK {
		return
	}
	x.Event = event.Copy(x.Event)
	*p = append(p.those(func(other api.Booking) bool { return other.ID != x.ID }), x)
}

// those gives the bookings that are meant, in new memory.
func (p paper) those(meant func(x api.Booking) bool) []api.Booking {
	var out []api.Booking
	for _, x := range p {
		if meant(x) {
			out = append(out, x)
		}
	}
	return out
}

// ordered gives the bookings by their Seq, those of one Seq by their sites.
func (p paper) ordered() []api.Booking {
	return slices.SortedFunc(slices.Values(p), func(a, b api.Booking) int {
		if a.ID.Seq != b.ID.Seq {
			return cmp.Compare(a.ID.Seq, b.ID.Seq)
		}
		return cmp.Compare(a.ID.Site, b.ID.Site)
	})
}

func (p paper) of(states ...int) []api.Booking {
	return paper(p.those(func(x api.Booking) bool { return slices.Contains(states, x.State) })).ordered()
}

func (p paper) taken(uid string) bool {
	return slices.ContainsFunc(p.of(api.Pending, api.Confirmed), func(x api.Booking) bool { return x.Event.UID == uid })
}

// busy goes through the room minutes, which change nowhere but where a claim begins or ends.
func (p paper) busy(c []api.Claim) []api.Claim {
	var let []api.Claim
	for _, x := range p.of(api.Confirmed) {
		l, _ := claim.Of(x.Event)
		let = append(let, l...)
	}
	at := edges(c, let)
	var out []api.Claim
	for room := range api.MaxRoom {
		was := false
		for _, m := range at {
			is := has(c, room, m) && has(let, room, m)
			if is && !was {
				out = append(out, of(room, m, api.MaxMinute))
			} else if was && !is {
				out[len(out)-1].Span.To = m
			}
			was = is
		}
	}
	return out
}

// has tells by the words of the chapter of claims whether a list has a room minute.
func has(l []api.Claim, room, m int) bool {
	return slices.ContainsFunc(l, func(c api.Claim) bool {
		valid := c.Room >= 0 && c.Room < api.MaxRoom && c.Span.From >= 0 && c.Span.From < c.Span.To && c.Span.To <= api.MaxMinute
		return valid && c.Room == room && c.Span.From <= m && m < c.Span.To
	})
}

// edges gives the minutes at which one of the claims begins or ends, ascending.
func edges(lists ...[]api.Claim) []int {
	out := []int{0}
	for _, c := range slices.Concat(lists...) {
		for _, m := range []int{c.Span.From, c.Span.To} {
			if m >= 0 && m < api.MaxMinute {
				out = append(out, m)
			}
		}
	}
	slices.Sort(out)
	return slices.Compact(out)
}

// whole are the claims to all rooms for good.
func whole() []api.Claim {
	var out []api.Claim
	for room := range api.MaxRoom {
		out = append(out, of(room, 0, api.MaxMinute))
	}
	return out
}

// none are claims that are not valid: by their room, by their span, or by both.
func none() []api.Claim {
	var out []api.Claim
	for _, room := range []int{math.MinInt, -1, 0, 3, 7, api.MaxRoom, 1 << 32, 1<<32 + 3, math.MaxInt} {
		out = append(out,
			of(room, 2070, 2070), of(room, 2130, 2070), of(room, -1, 2130), of(room, 2070, api.MaxMinute+1),
			of(room, math.MinInt, math.MaxInt), of(room, math.MaxInt, math.MinInt), of(room, 0, 0),
			of(room, api.MaxMinute, api.MaxMinute), of(room, -2130, -2070),
		)
		if room < 0 || room >= api.MaxRoom {
			out = append(out, of(room, 2070, 2130), of(room, 0, api.MaxMinute))
		}
	}
	return out
}

func sameBookings(a, b []api.Booking) bool {
	return slices.EqualFunc(a, b, deed.SameBooking)
}

func expectBookings(t *testing.T, name string, got, want []api.Booking) {
	t.Helper()
	if !sameBookings(got, want) {
		t.Errorf("%s = %+v, want %+v", name, got, want)
	}
}

func expectGet(t *testing.T, b *book.Book, i api.ID, want ...api.Booking) {
	t.Helper()
	got, ok := b.Get(i)
	if ok != (len(want) > 0) {
		t.Errorf("Get(%v) = %+v, %v", i, got, ok)
		return
	}
	if !deed.SameBooking(got, append(want, api.Booking{})[0]) {
		t.Errorf("Get(%v) = %+v, want %+v", i, got, want)
	}
}

func expectOpen(t *testing.T, b *book.Book, want int) {
	t.Helper()
	if got := b.Open(); got != want {
		t.Errorf("Open = %d, want %d", got, want)
	}
}

func expectTaken(t *testing.T, b *book.Book, uid string, want bool) {
	t.Helper()
	if got := b.Taken(uid); got != want {
		t.Errorf("Taken(%q) = %v", uid, got)
	}
}

func expectBusy(t *testing.T, b *book.Book, c []api.Claim, want ...api.Claim) {
	t.Helper()
	if got := b.Busy(c); !slices.Equal(got, want) {
		t.Errorf("Busy(%v) = %v, want %v", c, got, want)
	}
}

// expect fails unless a book tells in all its answers what the paper does.
func expect(t *testing.T, b *book.Book, p paper) {
	t.Helper()
	expectBookings(t, "All", b.All(), p.ordered())
	for _, state := range append(states(), noStates()...) {
		expectBookings(t, "Of", b.Of(state), p.of(state))
	}
	expectOpen(t, b, len(p.of(api.Pending, api.Confirmed)))
	asked := []api.ID{{}, id(1, 0), id(1, lastSite), id(2, 1), id(api.MaxSeq, lastSite)}
	uids := []string{"", "a-1", "A-1", "a", "a-12", "zz", "a b"}
	for _, x := range p {
		asked = append(asked, x.ID, id(x.ID.Seq+1, x.ID.Site), id(x.ID.Seq, x.ID.Site+1), id(x.ID.Site, x.ID.Seq))
		uids = append(uids, x.Event.UID, x.Event.UID+"a", strings.ToUpper(x.Event.UID), strings.ToLower(x.Event.UID))
	}
	for _, i := range asked {
		expectGet(t, b, i, p.those(func(x api.Booking) bool { return x.ID == i })...)
	}
	for _, uid := range uids {
		expectTaken(t, b, uid, p.taken(uid))
	}
	for _, c := range [][]api.Claim{nil, whole(), list(of(3, 2100, 2200), of(3, 2000, 2071))} {
		expectBusy(t, b, c, p.busy(c)...)
	}
}
