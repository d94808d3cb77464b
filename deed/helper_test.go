package deed_test

import (
	"math"
	"slices"
	"strings"
	"testing"

	"hostelry/api"
	"hostelry/deed"
	"hostelry/rule"
)

const (
	lastMinute = api.MaxMinute - 1
	lastSite   = api.MaxSite - 1
)

// id is short for the literals of the tables.
func id(seq, site int) api.ID {
	return api.ID{Seq: seq, Site: site}
}

// of is short for the literals of the tables.
func of(room, from, to int) api.Claim {
	return api.Claim{Room: room, Span: api.Span{From: from, To: to}}
}

// list is short for the literals of the tables.
func list(l ...api.Claim) []api.Claim {
	return l
}

// neat gives so many claims in neat form, in two rooms.
func neat(n int) []api.Claim {
	var out []api.Claim
	for i := range n {
		room := 2
		if i >= n/2 {
			room = 5
		}
		out = append(out, of(room, 10*i, 10*i+7))
	}
	return out
}

// hour is one hour in room 3, at 10:30 on the second of January 2000.
func hour() api.Event {
	return api.Event{UID: "a-1", Start: 2070, Long: 60, Rooms: []int{3}, Rule: rule.Once()}
}

// full is an event that has as much as one may have.
func full() api.Event {
	return api.Event{
		UID:   "Az0-Zy9x-12B",
		Text:  `a,b;c\d` + "\n" + strings.Repeat("x", 31) + "~",
		Start: lastMinute,
		Long:  api.MaxLong,
		Rooms: []int{0, 1, 6, 7},
		Rule: api.Rule{
			Freq: api.Yearly, Every: 100, Until: lastMinute,
			ByDay:      []api.Weekday{{N: -5, Day: 0}, {N: 0, Day: 6}, {N: 5, Day: 1}},
			ByMonthDay: []int{-31, -1, 1, 31},
			ByMonth:    []int{1, 2, 12},
		},
		Except: []int{0, 1, 2, 3, 4, 5, 6, 7, 8, 9, 10, lastMinute},
	}
}

func booking(seq, site, state int) api.Booking {
	return api.Booking{ID: id(seq, site), State: state, Event: hour()}
}

// kinds are all that there are.
func kinds() []int {
	return []int{api.DAsk, api.DBook, api.DRefuse, api.DCancel, api.DGive, api.DGet, api.DThank, api.DHear}
}

func uses(kind int, field string) bool {
	return slices.Contains(used(kind), field)
}

// used are the fields that a kind uses, by the words of the chapter.
func used(kind int) []string {
	switch kind {
	case api.DAsk, api.DBook:
		return []string{"ID", "Event"}
	case api.DRefuse, api.DCancel:
		return []string{"ID"}
	case api.DGive, api.DGet:
		return []string{"Claims", "Peer", "N"}
	case api.DThank:
		return []string{"Peer", "N"}
	case api.DHear:
		return []string{"Peer", "N", "Book"}
	}
	return nil
}

// small gives a deed of this kind whose fields are at their least values.
func small(kind int) api.Deed {
	return only(api.Deed{
		Kind:   kind,
		ID:     id(1, 0),
		Event:  api.Event{UID: "a", Long: 1, Rooms: []int{0}, Rule: rule.Once()},
		Claims: list(of(0, 0, 1)),
		Peer:   0,
		N:      1,
		Book:   api.Booking{ID: id(1, 0), State: api.Confirmed, Event: hour()},
	})
}

// great gives a deed of this kind whose fields are at their greatest values.
func great(kind int) api.Deed {
	return only(api.Deed{
		Kind:   kind,
		ID:     id(api.MaxSeq, lastSite),
		Event:  full(),
		Claims: append(neat(api.MaxClaims-1), of(7, 0, api.MaxMinute)),
		Peer:   lastSite,
		N:      api.MaxSeq,
		Book:   api.Booking{ID: id(api.MaxSeq, lastSite), State: api.Cancelled, Event: full()},
	})
}

// only gives the deed without the fields that its kind does not use.
func only(d api.Deed) api.Deed {
	if !uses(d.Kind, "ID") {
		d.ID = api.ID{}
	}
	if !uses(d.Kind, "Event") {
		d.Event = api.Event{}
	}
	if !uses(d.Kind, "Claims") {
		d.Claims = nil
	}
	if !uses(d.Kind, "Peer") {
		d.Peer = 0
	}
	if !uses(d.Kind, "N") {
		d.N = 0
	}
	if !uses(d.Kind, "Book") {
		d.Book = api.Booking{}
	}
	return d
}

// deeds are some of all kinds.
func deeds() []api.Deed {
	var out []api.Deed
	for _, kind := range kinds() {
		out = append(out, small(kind), great(kind))
	}
	return out
}

// change is one that a single field of something of type T undergoes. The same
// change again has no effect, and no two of them make the same of one thing.
type change[T any] struct {
	field string
	do    func(x *T)
}

// within gives the changes of what is a part of something greater.
func within[T, U any](field string, part func(x *T) *U, changes []change[U]) []change[T] {
	var out []change[T]
	for _, c := range changes {
		out = append(out, change[T]{field + "." + c.field, func(x *T) { c.do(part(x)) }})
	}
	return out
}

// ruleChanges set one field of a rule to what no rule of these tests has there.
func ruleChanges() []change[api.Rule] {
	return []change[api.Rule]{
		{"Freq", func(r *api.Rule) { r.Freq = api.Monthly }},
		{"Freq", func(r *api.Rule) { r.Freq = -1 }},
		{"Every", func(r *api.Rule) { r.Every = 7 }},
		{"Every", func(r *api.Rule) { r.Every = -7 }},
		{"Count", func(r *api.Rule) { r.Count = 7 }},
		{"Count", func(r *api.Rule) { r.Count = math.MinInt }},
		{"Until", func(r *api.Rule) { r.Until = 7 }},
		{"Until", func(r *api.Rule) { r.Until = -7 }},
		{"ByDay", func(r *api.Rule) { r.ByDay = []api.Weekday{{}} }},
		{"ByDay", func(r *api.Rule) { r.ByDay = []api.Weekday{{N: 1}} }},
		{"ByDay", func(r *api.Rule) { r.ByDay = []api.Weekday{{Day: 1}} }},
		{"ByMonthDay", func(r *api.Rule) { r.ByMonthDay = []int{0} }},
		{"ByMonthDay", func(r *api.Rule) { r.ByMonthDay = []int{1} }},
		{"ByMonth", func(r *api.Rule) { r.ByMonth = []int{0} }},
		{"ByMonth", func(r *api.Rule) { r.ByMonth = []int{1} }},
	}
}

// eventChanges set one field of an event to what no event of these tests has there.
func eventChanges() []change[api.Event] {
	return append([]change[api.Event]{
		{"UID", func(e *api.Event) { e.UID = "b-2" }},
		{"UID", func(e *api.Event) { e.UID = " " }},
		{"Text", func(e *api.Event) { e.Text = "b" }},
		{"Text", func(e *api.Event) { e.Text = "\x00" }},
		{"Start", func(e *api.Event) { e.Start = 7 }},
		{"Start", func(e *api.Event) { e.Start = -1 }},
		{"Long", func(e *api.Event) { e.Long = 7 }},
		{"Long", func(e *api.Event) { e.Long = -1 }},
		{"Rooms", func(e *api.Event) { e.Rooms = []int{7} }},
		{"Rooms", func(e *api.Event) { e.Rooms = []int{0, 0} }},
		{"Except", func(e *api.Event) { e.Except = []int{0} }},
		{"Except", func(e *api.Event) { e.Except = []int{7} }},
	}, within("Rule", func(e *api.Event) *api.Rule { return &e.Rule }, ruleChanges())...)
}

// idChanges set one field of an ID to what no ID of these tests has there.
func idChanges() []change[api.ID] {
	return []change[api.ID]{
		{"Seq", func(i *api.ID) { i.Seq = 7 }},
		{"Seq", func(i *api.ID) { i.Seq = -1 }},
		{"Site", func(i *api.ID) { i.Site = 2 }},
		{"Site", func(i *api.ID) { i.Site = -1 }},
	}
}

// bookingChanges set one field of a booking to what no booking of these tests has there.
func bookingChanges() []change[api.Booking] {
	return slices.Concat(
		within("ID", func(b *api.Booking) *api.ID { return &b.ID }, idChanges()),
		[]change[api.Booking]{
			{"State", func(b *api.Booking) { b.State = api.Pending }},
			{"State", func(b *api.Booking) { b.State = api.Refused }},
			{"State", func(b *api.Booking) { b.State = -1 }},
		},
		within("Event", func(b *api.Booking) *api.Event { return &b.Event }, eventChanges()),
	)
}

// deedChanges set one field of a deed, but not its kind, to what no deed of these tests has there.
func deedChanges() []change[api.Deed] {
	return slices.Concat(
		within("ID", func(d *api.Deed) *api.ID { return &d.ID }, idChanges()),
		within("Event", func(d *api.Deed) *api.Event { return &d.Event }, eventChanges()),
		[]change[api.Deed]{
			{"Claims", func(d *api.Deed) { d.Claims = list(of(0, 0, 0)) }},
			{"Claims", func(d *api.Deed) { d.Claims = list(of(7, 7, 8)) }},
			{"Claims", func(d *api.Deed) { d.Claims = neat(7) }},
			{"Peer", func(d *api.Deed) { d.Peer = 2 }},
			{"Peer", func(d *api.Deed) { d.Peer = -1 }},
			{"N", func(d *api.Deed) { d.N = 7 }},
			{"N", func(d *api.Deed) { d.N = -1 }},
		},
		within("Book", func(d *api.Deed) *api.Booking { return &d.Book }, bookingChanges()),
	)
}

// with gives something after a change, which may write into slices of its own.
func with[T any](x T, apart func(x T) T, change func(x *T)) T {
	x = apart(x)
	change(&x)
	return x
}

// apart gives an event that is equal, but shares nothing with the other one.
func apart(e api.Event) api.Event {
	e.Rooms, e.Except = slices.Clone(e.Rooms), slices.Clone(e.Except)
	e.Rule.ByDay = slices.Clone(e.Rule.ByDay)
	e.Rule.ByMonthDay, e.Rule.ByMonth = slices.Clone(e.Rule.ByMonthDay), slices.Clone(e.Rule.ByMonth)
	return e
}

func bookingApart(b api.Booking) api.Booking {
	b.Event = apart(b.Event)
	return b
}

func deedApart(d api.Deed) api.Deed {
	d.Event, d.Book, d.Claims = apart(d.Event), bookingApart(d.Book), slices.Clone(d.Claims)
	return d
}

// far are numbers beyond everything that the chapter names.
func far() []int {
	return []int{
		math.MinInt, math.MinInt + 1, math.MinInt32, -api.MaxSeq, -api.MaxSite, -2,
		api.MaxSeq + 2, math.MaxInt32, 1 << 32, 1<<32 + 1, math.MaxInt - 1, math.MaxInt,
	}
}

// noEvents are events that are none, each for one field.
func noEvents() []api.Event {
	changes := []func(e *api.Event){
		func(e *api.Event) { e.UID = "" },
		func(e *api.Event) { e.UID += "a" },
		func(e *api.Event) { e.UID = "a b" },
		func(e *api.Event) { e.Text += "a" },
		func(e *api.Event) { e.Text = "\r" },
		func(e *api.Event) { e.Start = -1 },
		func(e *api.Event) { e.Start = api.MaxMinute },
		func(e *api.Event) { e.Long = 0 },
		func(e *api.Event) { e.Long = api.MaxLong + 1 },
		func(e *api.Event) { e.Rooms = nil },
		func(e *api.Event) { e.Rooms = []int{} },
		func(e *api.Event) { e.Rooms = []int{0, 1, 2, 3, 4} },
		func(e *api.Event) { e.Rooms = []int{-1} },
		func(e *api.Event) { e.Rooms = []int{api.MaxRoom} },
		func(e *api.Event) { e.Rooms = []int{1, 0} },
		func(e *api.Event) { e.Rooms = []int{1, 1} },
		func(e *api.Event) { e.Rule = api.Rule{} },
		func(e *api.Event) { e.Rule = rule.Once() }, // but there are exceptions
		func(e *api.Event) { e.Rule.Freq = 5 },
		func(e *api.Event) { e.Rule.Every = 0 },
		func(e *api.Event) { e.Rule.Count = 1 }, // and Until
		func(e *api.Event) { e.Rule.Until = api.MaxMinute },
		func(e *api.Event) { e.Rule.ByDay[0].Day = 7 },
		func(e *api.Event) { e.Rule.ByMonthDay[1] = 0 },
		func(e *api.Event) { e.Rule.ByMonth[2] = 13 },
		func(e *api.Event) { e.Except = append(e.Except[:11], lastMinute-1, lastMinute) },
		func(e *api.Event) { e.Except = []int{-1} },
		func(e *api.Event) { e.Except = []int{api.MaxMinute} },
		func(e *api.Event) { e.Except = []int{1, 0} },
		func(e *api.Event) { e.Except = []int{1, 1} },
	}
	out := []api.Event{{}, {Rule: rule.Once()}}
	for _, change := range changes {
		out = append(out, with(full(), apart, change))
	}
	return out
}

// expect fails unless a question about one thing is answered like this.
func expect[T any](t *testing.T, name string, is func(x T) bool, x T, want bool) {
	t.Helper()
	if got := is(x); got != want {
		t.Errorf("%s(%+v) = %v", name, x, got)
	}
}

// expectAlike fails unless two things are told to be the same, or not, whichever comes first.
func expectAlike[T any](t *testing.T, name string, same func(a, b T) bool, a, b T, want bool) {
	t.Helper()
	expect(t, name, func(pair [2]T) bool { return same(pair[0], pair[1]) }, [2]T{a, b}, want)
	expect(t, name, func(pair [2]T) bool { return same(pair[0], pair[1]) }, [2]T{b, a}, want)
}

func expectIs(t *testing.T, d api.Deed, want bool) {
	t.Helper()
	expect(t, "Is", deed.Is, d, want)
}

func expectSame(t *testing.T, a, b api.Deed, want bool) {
	t.Helper()
	expectAlike(t, "Same", deed.Same, a, b, want)
}

func expectBooking(t *testing.T, b api.Booking, want bool) {
	t.Helper()
	expect(t, "IsBooking", deed.IsBooking, b, want)
}

func expectSameBooking(t *testing.T, a, b api.Booking, want bool) {
	t.Helper()
	expectAlike(t, "SameBooking", deed.SameBooking, a, b, want)
}
