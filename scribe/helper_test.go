package scribe_test

import (
	"reflect"
	"slices"
	"strings"
	"testing"

	"hostelry/api"
	"hostelry/deed"
	"hostelry/rule"
	"hostelry/scribe"
)

const (
	lastMinute = api.MaxMinute - 1
	lastSite   = api.MaxSite - 1
)

// id is short for the literals of the tables.
func id(seq, site int) api.ID {
	return api.ID{Seq: seq, Site: site}
}

// of is short for the literals of the tables.
func of(room, from, to int) api.Claim {
	return api.Claim{Room: room, Span: api.Span{From: from, To: to}}
}

// list is short for the literals of the tables.
func list(l ...api.Claim) []api.Claim {
	return l
}

// hour is one hour in room 3, at 10:30 on the second of January 2000.
func hour() api.Event {
	return api.Event{UID: "a-1", Start: 2070, Long: 60, Rooms: []int{3}, Rule: rule.Once()}
}

// least is an event whose fields are at their least values.
func least() api.Event {
	return api.Event{UID: "-", Long: 1, Rooms: []int{0}, Rule: rule.Once()}
}

// full is an event that has as much as one may have, and writes it as long as can be.
func full() api.Event {
	return api.Event{
		UID:   "Az0-Zy9x-12z",
		Text:  "\n ,1-9" + strings.Repeat("~", 28) + "9-1, \n",
		Start: lastMinute,
		Long:  api.MaxLong,
		Rooms: []int{0, 1, 6, 7},
		Rule: api.Rule{
			Freq: api.Yearly, Every: 100, Until: lastMinute,
			ByDay:      weekdays(-5, -1),
			ByMonthDay: numbers(-31),
			ByMonth:    numbers(1),
		},
		Except: numbers(api.MaxMinute - api.MaxList),
	}
}

// numbers gives as many as a list of a rule may have, from the first one on.
func numbers(first int) []int {
	var out []int
	for n := range api.MaxList {
		out = append(out, first+n)
	}
	return out
}

// weekdays gives as many as a rule may have, each six times with one of two numbers.
func weekdays(numbers ...int) []api.Weekday {
	var out []api.Weekday
	for _, n := range numbers {
		for day := range 6 {
			out = append(out, api.Weekday{N: n, Day: day + 1})
		}
	}
	return out
}

// claims gives so many, the last ones that there are: in the greatest room, with the longest numbers.
func claims(n int) []api.Claim {
	var out []api.Claim
	for i := range n {
		from := api.MaxMinute - 9*(n-i)
		out = append(out, of(api.MaxRoom-1, from, from+8))
	}
	return out
}

// kinds are all that there are.
func kinds() []int {
	return []int{api.DAsk, api.DBook, api.DRefuse, api.DCancel, api.DGive, api.DGet, api.DThank, api.DHear}
}

// states are those that a Book may have.
func states() []int {
	return []int{api.Confirmed, api.Cancelled}
}

// only gives a deed of this kind, with just those of the fields that the kind uses.
func only(kind int, d api.Deed) api.Deed {
	switch kind {
	case api.DAsk, api.DBook:
		return api.Deed{Kind: kind, ID: d.ID, Event: d.Event}
	case api.DRefuse, api.DCancel:
		return api.Deed{Kind: kind, ID: d.ID}
	case api.DGive, api.DGet:
		return api.Deed{Kind: kind, Claims: d.Claims, Peer: d.Peer, N: d.N}
	case api.DThank:
		return api.Deed{Kind: kind, Peer: d.Peer, N: d.N}
	case api.DHear:
		return api.Deed{Kind: kind, Peer: d.Peer, N: d.N, Book: d.Book}
	}
	return d
}

// small gives a deed of this kind whose fields are at their least values.
func small(kind int) api.Deed {
	return only(kind, api.Deed{
		ID:     id(1, 0),
		Event:  least(),
		Claims: list(of(0, 0, 1)),
		N:      1,
		Book:   api.Booking{ID: id(1, 0), State: api.Confirmed, Event: least()},
	})
}

// usual gives a deed of this kind as there are many.
func usual(kind int) api.Deed {
	return only(kind, api.Deed{
		ID:     id(3, 1),
		Event:  hour(),
		Claims: list(of(3, 2070, 2130), of(3, 9270, 9330), of(5, 0, 1440)),
		Peer:   2,
		N:      12,
		Book:   api.Booking{ID: id(45, 2), State: api.Cancelled, Event: hour()},
	})
}

// great gives a deed of this kind whose fields are at their greatest values.
func great(kind int) api.Deed {
	return only(kind, api.Deed{
		ID:     id(api.MaxSeq, lastSite),
		Event:  full(),
		Claims: claims(api.MaxClaims),
		Peer:   lastSite,
		N:      api.MaxSeq,
		Book:   api.Booking{ID: id(api.MaxSeq, lastSite), State: api.Cancelled, Event: full()},
	})
}

// deeds are some of all kinds.
func deeds() []api.Deed {
	var out []api.Deed
	for _, kind := range kinds() {
		out = append(out, small(kind), usual(kind), great(kind))
	}
	return out
}

// with gives an event after a change, which may write into slices of its own.
func with(e api.Event, change func(e *api.Event)) api.Event {
	e.Rooms, e.Except = slices.Clone(e.Rooms), slices.Clone(e.Except)
	e.Rule.ByDay = slices.Clone(e.Rule.ByDay)
	e.Rule.ByMonthDay, e.Rule.ByMonth = slices.Clone(e.Rule.ByMonthDay), slices.Clone(e.Rule.ByMonth)
	change(&e)
	return e
}

// withRule gives an event that comes by the rule which the change makes of a daily one.
func withRule(change func(r *api.Rule)) api.Event {
	return with(hour(), func(e *api.Event) {
		e.Rule = api.Rule{Freq: api.Daily, Every: 1, Until: -1}
		change(&e.Rule)
	})
}

// lineOf gives the line of a deed, which is as long as it may be, and is read again.
func lineOf(t *testing.T, d api.Deed) string {
	t.Helper()
	s, err := scribe.Line(d)
	if err != api.OK || len(s) < 4 || len(s) > 8000 || strings.ContainsAny(s, "\r\n") {
		t.Errorf("Line(%+v) = %q, %v", d, s, err)
	}
	if again, err := scribe.Line(d); again != s || err != api.OK {
		t.Errorf("Line(%+v) = %q, and then %q, %v", d, s, again, err)
	}
	got, err := scribe.Read(s)
	if err != api.OK || !deed.Same(got, d) || !deed.Is(got) {
		t.Errorf("Read(%q) = %+v, %v, want %+v", s, got, err, d)
	}
	return s
}

// expectNone fails unless there is no line of what is no deed.
func expectNone(t *testing.T, d api.Deed) {
	t.Helper()
	if s, err := scribe.Line(d); s != "" || err != api.ErrForm {
		t.Errorf("Line(%+v) = %q, %v", d, s, err)
	}
}

// expectSpoilt fails unless the text is seen not to be a line.
func expectSpoilt(t *testing.T, s string) {
	t.Helper()
	if d, err := scribe.Read(s); err != api.ErrSpoilt || !reflect.DeepEqual(d, api.Deed{}) {
		t.Errorf("Read(%q) = %+v, %v", s, d, err)
	}
}

// expectOwn fails unless the text is seen not to be a line, or is just that of
// the deed that is read.
func expectOwn(t *testing.T, s string) {
	t.Helper()
	d, err := scribe.Read(s)
	if err == api.ErrSpoilt && reflect.DeepEqual(d, api.Deed{}) {
		return
	}
	if again, other := scribe.Line(d); err != api.OK || again != s || other != api.OK {
		t.Errorf("Read(%q) = %+v, %v, whose line is %q, %v", s, d, err, again, other)
	}
}
