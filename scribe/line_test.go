package scribe_test

import (
	"math"
	"slices"
	"strings"
	"testing"

	"hostelry/api"
	"hostelry/deed"
	"hostelry/event"
	"hostelry/rule"
	"hostelry/scribe"
)

// P15.1: Line of deeds, and P15.3: each is read again

func TestLinesOfEachKind(t *testing.T) {
	for _, d := range deeds() {
		lineOf(t, d)
	}
	for _, kind := range []int{api.DGive, api.DGet} {
		for n := 1; n <= api.MaxClaims; n++ {
			lineOf(t, api.Deed{Kind: kind, Claims: claims(n), Peer: lastSite, N: api.MaxSeq})
		}
		lineOf(t, api.Deed{Kind: kind, Claims: list(of(0, 0, api.MaxMinute)), N: 1})
		lineOf(t, api.Deed{Kind: kind, Claims: list(of(7, lastMinute, api.MaxMinute)), N: 1})
	}
}

func TestLinesOfEachState(t *testing.T) {
	for _, state := range states() {
		for _, e := range []api.Event{least(), hour(), full()} {
			lineOf(t, api.Deed{Kind: api.DHear, Peer: 2, N: 9, Book: api.Booking{ID: id(3, 2), State: state, Event: e}})
		}
	}
}

// Deeds that no two of which are the same, but all nearly.
func TestDifferentDeedsHaveDifferentLines(t *testing.T) {
	var all []api.Deed
	for _, e := range differentEvents() {
		for _, kind := range []int{api.DAsk, api.DBook} {
			all = append(all, api.Deed{Kind: kind, ID: id(3, 1), Event: e})
		}
		for _, state := range states() {
			all = append(all, api.Deed{Kind: api.DHear, Peer: 2, N: 9, Book: api.Booking{ID: id(3, 2), State: state, Event: e}})
		}
	}
	all = slices.Concat(all, differentNumbers(), differentClaims())
	lines := map[string]api.Deed{}
	for _, d := range all {
		s := lineOf(t, d)
		if other, ok := lines[s]; ok {
			t.Errorf("%+v and %+v have the line %q", other, d, s)
		}
		lines[s] = d
	}
	for i, d := range all { // or the map would not tell what it should
		if i%97 == 0 {
			for j, other := range all {
				if deed.Same(d, other) != (i == j) {
					t.Errorf("%+v is there twice", d)
				}
			}
		}
	}
}

// differentNumbers are deeds of each kind that differ in an ID or a number.
func differentNumbers() []api.Deed {
	var out []api.Deed
	e := with(least(), func(e *api.Event) { e.UID = "number" })
	for _, kind := range kinds() {
		for _, seq := range []int{1, 2, 3, 9, 10, 11, 31, 99, 100, 123, 999999, api.MaxSeq} {
			for site := range api.MaxSite {
				d := only(kind, api.Deed{ID: id(seq, site), Event: e, Claims: list(of(0, 0, 1)), Peer: site, N: seq})
				if kind != api.DHear {
					out = append(out, d)
					continue
				}
				for _, n := range []int{1, 12, api.MaxSeq} {
					d.Book = api.Booking{ID: id(n, site), State: api.Confirmed, Event: e}
					out = append(out, d)
				}
			}
		}
	}
	return out
}

// differentClaims are deeds of the same kinds that differ in their claims.
func differentClaims() []api.Deed {
	lists := [][]api.Claim{
		list(of(0, 0, 2)), list(of(0, 1, 2)), list(of(1, 0, 1)), list(of(1, 0, 2)), list(of(1, 1, 2)),
		list(of(0, 0, 1), of(0, 2, 3)), list(of(0, 0, 1), of(1, 2, 3)), list(of(0, 0, 1), of(1, 0, 1)),
		list(of(0, 0, 1), of(0, 2, 4)), list(of(0, 0, 1), of(0, 3, 4)), list(of(0, 0, 1), of(0, 2, 3), of(0, 4, 5)),
		list(of(0, 1, 23)), list(of(0, 12, 34)), list(of(0, 1, 234)), list(of(0, 123, 124)),
		list(of(7, lastMinute, api.MaxMinute)), list(of(7, 0, api.MaxMinute)), list(of(6, 0, api.MaxMinute)),
	}
	for n := 1; n <= api.MaxClaims; n++ {
		lists = append(lists, claims(n))
	}
	for i := range api.MaxClaims {
		one := claims(api.MaxClaims)
		one[i].Span.To--
		other := claims(api.MaxClaims)
		other[i].Span.From++
		lists = append(lists, one, other)
		if i > 0 {
			lists = append(lists, slices.Delete(claims(api.MaxClaims), i, i+1)) // the first one: 159 claims
		}
	}
	var out []api.Deed
	for _, l := range lists {
		for _, kind := range []int{api.DGive, api.DGet} {
			out = append(out, api.Deed{Kind: kind, Claims: l, Peer: 2, N: 9})
		}
	}
	return out
}

// differentEvents are events of which no two are the same.
func differentEvents() []api.Event {
	out := []api.Event{least(), hour(), full()}
	for _, change := range eventChanges() {
		out = append(out, with(full(), change))
	}
	out = slices.Concat(out, eventsOfUIDs(), eventsOfTexts(), eventsOfTimes(), eventsOfRooms(), eventsOfRules(), eventsOfLists(), eventsOfExcept())
	return out
}

// eventChanges change one field of the full event each, to another value that it may have.
func eventChanges() []func(e *api.Event) {
	return []func(e *api.Event){
		func(e *api.Event) { e.UID = e.UID[1:] },
		func(e *api.Event) { e.UID = e.UID[:11] },
		func(e *api.Event) { e.UID = "a" + e.UID[1:] },
		func(e *api.Event) { e.UID = e.UID[:11] + "Z" },
		func(e *api.Event) { e.Text = "" },
		func(e *api.Event) { e.Text = e.Text[1:] },
		func(e *api.Event) { e.Text = e.Text[:39] },
		func(e *api.Event) { e.Text = " " + e.Text[1:] },
		func(e *api.Event) { e.Text = e.Text[:39] + " " },
		func(e *api.Event) { e.Start-- },
		func(e *api.Event) { e.Long-- },
		func(e *api.Event) { e.Rooms[0] = 2; slices.Sort(e.Rooms) },
		func(e *api.Event) { e.Rooms = e.Rooms[1:] },
		func(e *api.Event) { e.Rooms = e.Rooms[:3] },
		func(e *api.Event) { e.Rule.Freq = api.Monthly },
		func(e *api.Event) { e.Rule.Freq, e.Rule.Count, e.Rule.Until = api.Monthly, 40, -1 },
		func(e *api.Event) { e.Rule.Every-- },
		func(e *api.Event) { e.Rule.Until-- },
		func(e *api.Event) { e.Rule.Until = -1 },
		func(e *api.Event) { e.Rule.Count, e.Rule.Until = 40, -1 },
		func(e *api.Event) { e.Rule.Count, e.Rule.Until = 1, -1 },
		func(e *api.Event) { e.Rule.ByDay[5].N++ },
		func(e *api.Event) { e.Rule.ByDay[0].Day-- },
		func(e *api.Event) { e.Rule.ByDay[11].N++ },
		func(e *api.Event) { e.Rule.ByDay = e.Rule.ByDay[1:] },
		func(e *api.Event) { e.Rule.ByDay = e.Rule.ByDay[:11] },
		func(e *api.Event) { e.Rule.ByDay = nil },
		func(e *api.Event) { e.Rule.ByMonthDay[11]++ },
		func(e *api.Event) { e.Rule.ByMonthDay = e.Rule.ByMonthDay[1:] },
		func(e *api.Event) { e.Rule.ByMonthDay = e.Rule.ByMonthDay[:11] },
		func(e *api.Event) { e.Rule.ByMonthDay = nil },
		func(e *api.Event) { e.Rule.ByMonth = e.Rule.ByMonth[1:] },
		func(e *api.Event) { e.Rule.ByMonth = e.Rule.ByMonth[:11] },
		func(e *api.Event) { e.Except[0]-- },
		func(e *api.Event) { e.Except = e.Except[1:] },
		func(e *api.Event) { e.Except = e.Except[:11] },
		func(e *api.Event) { e.Except = nil },
	}
}

func eventsOfUIDs() []api.Event {
	uids := []string{"a", "ab", "abc", "1", "12", "0", "00", "01", "-1", "--", "----", "a-", "a--1", "a1", "aaaaaaaaaaaa", "aaaaaaaaaaab", "ZZZZZZZZZZZZ", "------------", "000000000000"}
	for _, s := range "bcdefghijklmnopqrstuvwxyzABCDEFGHIJKLMNOPQRSTUVWXYZ23456789-" {
		uids = append(uids, string(s), "x"+string(s))
	}
	var out []api.Event
	for _, uid := range uids {
		// The least event has the UID "-".
		out = append(out, with(least(), func(e *api.Event) { e.UID, e.Start = uid, 1 }))
	}
	// What is the end of the one is the beginning of the other.
	for _, x := range []struct{ uid, text string }{{"abc", "d"}, {"ab", "cd"}, {"a", "bcd"}, {"abcd", ""}, {"1", "2 3"}, {"1-2", "3"}, {"3", "1 2"}} {
		out = append(out, with(hour(), func(e *api.Event) { e.UID, e.Text = x.uid, x.text }))
	}
	return out
}

func eventsOfTexts() []api.Event {
	texts := []string{
		" ", "  ", "   ", "\n", "\n\n", " \n", "\n ", "a", " a", "a ", "a b", "a  b", "\na", "a\n", "a\nb", "ab",
		",", ",,", "a,", ",a", "a,b", "0", "00", "1", "-1", "+1", "01", "1 ", " 1", "1 2", "12", "-", "--", "- ", `\`, `\\`, `\n`, `\\n`, `"`, `""`, `"a"`, "'", "`",
		"3 97 45 49", "0 0 0", "1 3", "nil", "null", "%20", "%0a", "&#10;", "=", ";", ":", "|",
	}
	for b := 32; b <= 126; b++ {
		texts = append(texts, "xx"+string(rune(b)), string(rune(b))+"y", strings.Repeat(string(rune(b)), api.MaxText))
	}
	texts = append(texts, "x\n", "\nx", strings.Repeat("\n", api.MaxText), strings.Repeat("\n", api.MaxText-1)+" ", " "+strings.Repeat("\n", api.MaxText-1), strings.Repeat(" ", api.MaxText-1))
	var out []api.Event
	for _, text := range texts {
		out = append(out, with(hour(), func(e *api.Event) { e.UID, e.Text = "text", text }))
	}
	return out
}

func eventsOfTimes() []api.Event {
	var out []api.Event
	for _, start := range []int{0, 1, 2, 9, 10, 11, 99, 100, 2069, 2071, 10000000, lastMinute - 1, lastMinute} {
		for _, long := range []int{1, 2, 10, 60, 100, 1440, api.MaxLong - 1, api.MaxLong} {
			out = append(out, with(hour(), func(e *api.Event) { e.Start, e.Long = start, long }))
		}
	}
	return out
}

// eventsOfRooms are events in all rooms that an event may be in.
func eventsOfRooms() []api.Event {
	var out []api.Event
	for set := range 1 << api.MaxRoom {
		var rooms []int
		for room := range api.MaxRoom {
			if set>>room&1 == 1 {
				rooms = append(rooms, room)
			}
		}
		if len(rooms) >= 1 && len(rooms) <= api.MaxRooms {
			out = append(out, with(hour(), func(e *api.Event) { e.UID, e.Rooms = "rooms", rooms }))
		}
	}
	return out
}

func eventsOfRules() []api.Event {
	var out []api.Event
	for _, freq := range []int{api.Daily, api.Weekly, api.Monthly, api.Yearly} {
		for _, every := range []int{1, 2, 10, 99, 100} {
			for _, count := range []int{0, 1, 2, 39, 40} {
				out = append(out, withRule(func(r *api.Rule) { r.Freq, r.Every, r.Count = freq, every, count }))
			}
			for _, until := range []int{0, 1, 40, lastMinute} {
				out = append(out, withRule(func(r *api.Rule) { r.Freq, r.Every, r.Until = freq, every, until }))
			}
		}
	}
	return out
}

// eventsOfLists differ in the lists of their rules.
func eventsOfLists() []api.Event {
	var out []api.Event
	byDay := func(l ...api.Weekday) {
		out = append(out, withRule(func(r *api.Rule) { r.Freq, r.ByDay = api.Monthly, l }))
	}
	for day := range 7 {
		for n := -5; n <= 5; n++ {
			byDay(api.Weekday{N: n, Day: day})
		}
		byDay(api.Weekday{N: -5, Day: day}, api.Weekday{N: 5, Day: day})
	}
	for n := -5; n <= 4; n++ {
		byDay(weekdays(n, n+1)...)
	}
	for n := -31; n <= 31; n++ {
		if n != 0 {
			out = append(out, withRule(func(r *api.Rule) { r.ByMonthDay = []int{n} }))
		}
		if n >= 1 && n <= 12 {
			out = append(out, withRule(func(r *api.Rule) { r.ByMonth = []int{n} }))
		}
		if n >= 1 && n <= 20 {
			out = append(out, withRule(func(r *api.Rule) { r.ByMonthDay = numbers(n) }))
			out = append(out, withRule(func(r *api.Rule) { r.ByMonthDay = numbers(n)[:11] }))
		}
	}
	for n := 2; n <= 12; n++ {
		out = append(out, withRule(func(r *api.Rule) { r.ByMonth = numbers(1)[:n] }))
	}
	// The same numbers, but another list's.
	for _, x := range []struct{ byMonthDay, byMonth, except []int }{
		{[]int{1, 2, 3, 4}, nil, nil}, {[]int{1, 2, 3}, []int{4}, nil}, {[]int{1, 2}, []int{3, 4}, nil}, {[]int{1}, []int{2, 3, 4}, nil}, {nil, []int{1, 2, 3, 4}, nil},
		{nil, []int{1, 2, 3}, []int{4}}, {nil, []int{1, 2}, []int{3, 4}}, {nil, []int{1}, []int{2, 3, 4}}, {nil, nil, []int{1, 2, 3, 4}},
		{[]int{1, 2}, nil, []int{3, 4}}, {[]int{1}, []int{2}, []int{3, 4}}, {[]int{1, 2}, []int{3}, []int{4}}, {[]int{1}, []int{2, 3}, []int{4}},
		{[]int{12}, []int{3, 4}, nil}, {[]int{1, 23}, []int{4}, nil}, {[]int{1, 2}, nil, []int{34}},
	} {
		out = append(out, with(withRule(func(r *api.Rule) { r.Every, r.ByMonthDay, r.ByMonth = 7, x.byMonthDay, x.byMonth }), func(e *api.Event) { e.Except = x.except }))
	}
	for _, x := range []struct {
		byDay      []api.Weekday
		byMonthDay []int
	}{
		{[]api.Weekday{{N: 1, Day: 2}, {N: 2, Day: 1}}, []int{3}}, {[]api.Weekday{{N: 1, Day: 2}}, []int{1, 2, 3}}, {[]api.Weekday{{N: 1, Day: 2}}, []int{2, 3}}, {nil, []int{2, 3}},
	} {
		out = append(out, withRule(func(r *api.Rule) { r.Freq, r.ByDay, r.ByMonthDay = api.Monthly, x.byDay, x.byMonthDay }))
	}
	return out
}

func eventsOfExcept() []api.Event {
	var out []api.Event
	for _, l := range [][]int{{0}, {1}, {2}, {12}, {1, 2}, {0, 1, 2}, {lastMinute}, {0, lastMinute}, numbers(0), numbers(0)[:11], numbers(1), numbers(api.MaxMinute - 12), numbers(api.MaxMinute - 13)} {
		out = append(out, with(withRule(func(r *api.Rule) { r.Every = 9 }), func(e *api.Event) { e.Except = l }))
	}
	return append(out, withRule(func(r *api.Rule) { r.Every = 9 }))
}

// P15.1: lists that are nil and lists that are empty

func TestListsThatAreEmpty(t *testing.T) {
	for _, d := range deeds() {
		want := lineOf(t, d)
		if d.Claims == nil {
			d.Claims = list()
		}
		for _, e := range []*api.Event{&d.Event, &d.Book.Event} {
			for _, l := range []*[]int{&e.Rooms, &e.Except, &e.Rule.ByMonthDay, &e.Rule.ByMonth} {
				if *l == nil {
					*l = numbers(1)[:0]
				}
			}
			if e.Rule.ByDay == nil {
				e.Rule.ByDay = []api.Weekday{}
			}
		}
		if got := lineOf(t, d); got != want {
			t.Errorf("with lists that are empty, not nil: %q, want %q", got, want)
		}
	}
}

// P15.1: Line of what is not a deed

func TestLineOfWhatIsNoDeed(t *testing.T) {
	for _, d := range noDeeds() {
		if deed.Is(d) {
			t.Errorf("%+v is a deed", d)
		}
		expectNone(t, d)
	}
}

// noDeeds are of each kind, and are none for one reason each.
func noDeeds() []api.Deed {
	out := []api.Deed{{}, {Kind: -1}, {Kind: math.MinInt}, {Kind: math.MaxInt}, {ID: id(1, 0)}, {Event: hour()}}
	for _, d := range deeds() {
		for _, kind := range []int{math.MinInt, -1, 0, api.DHear + 1, 1<<32 + d.Kind, math.MaxInt} {
			other := d
			other.Kind = kind
			out = append(out, other)
		}
		for kind := api.DAsk; kind <= api.DHear; kind++ {
			other := d
			other.Kind = kind
			if !deed.Is(other) { // and not a twin
				out = append(out, other)
			}
		}
		for _, change := range unusedChanges() {
			other := d
			change(&other)
			if isUnused := sameUsed(d, other) && !deed.Same(d, other); isUnused {
				out = append(out, other)
			}
		}
		out = append(out, spoiltFields(d)...)
	}
	return out
}

// sameUsed reports whether two deeds differ only in what their kind does not use.
func sameUsed(a, b api.Deed) bool {
	return deed.Same(only(a.Kind, a), only(b.Kind, b))
}

// unusedChanges set each field to something that is good where it is used.
func unusedChanges() []func(d *api.Deed) {
	return []func(d *api.Deed){
		func(d *api.Deed) { d.ID.Seq = 77 },
		func(d *api.Deed) { d.ID.Site = 2 },
		func(d *api.Deed) { d.Event = with(hour(), func(e *api.Event) { e.UID = "unused" }) },
		func(d *api.Deed) { d.Event.Rule.Until = -1 },
		func(d *api.Deed) { d.Event.Except = []int{0} },
		func(d *api.Deed) { d.Claims = list(of(6, 6, 7)) },
		func(d *api.Deed) { d.Peer = 1 },
		func(d *api.Deed) { d.N = 77 },
		func(d *api.Deed) { d.Book.ID = id(77, 1) },
		func(d *api.Deed) { d.Book.State = api.Pending },
		func(d *api.Deed) { d.Book.Event.Text = "unused" },
	}
}

// spoiltFields gives what is no deed any more, since a field that its kind uses can't be like that.
func spoiltFields(d api.Deed) []api.Deed {
	var out []api.Deed
	add := func(change func(d *api.Deed)) {
		other := d
		change(&other)
		out = append(out, other)
	}
	if d.ID != (api.ID{}) {
		for _, i := range noIDs() {
			add(func(d *api.Deed) { d.ID = i })
		}
	}
	if d.Event.UID != "" {
		for _, e := range noEvents() {
			add(func(d *api.Deed) { d.Event = e })
		}
	}
	if d.Claims != nil {
		for _, l := range noClaims() {
			add(func(d *api.Deed) { d.Claims = l })
		}
	}
	if d.N == 0 {
		return out
	}
	for _, i := range noIDs() {
		if i.Site < 0 || i.Site > lastSite {
			add(func(d *api.Deed) { d.Peer, d.Book.ID.Site = i.Site, i.Site })
		} else {
			add(func(d *api.Deed) { d.N = i.Seq })
		}
	}
	if d.Kind != api.DHear {
		return out
	}
	for _, i := range noIDs() {
		add(func(d *api.Deed) { d.Book.ID = i })
	}
	for _, state := range []int{math.MinInt, -1, 0, api.Pending, api.Refused, api.Cancelled + 1, math.MaxInt} {
		add(func(d *api.Deed) { d.Book.State = state })
	}
	for _, e := range noEvents() {
		add(func(d *api.Deed) { d.Book.Event = e })
	}
	add(func(d *api.Deed) { d.Book = api.Booking{} })
	add(func(d *api.Deed) { d.Peer = (d.Peer + 1) % api.MaxSite }) // of another site than the booking
	return out
}

func noIDs() []api.ID {
	return []api.ID{
		id(0, 0), id(-1, 0), id(api.MaxSeq+1, lastSite), id(math.MinInt, 1), id(math.MaxInt, 1), id(0, lastSite),
		id(1, -1), id(1, api.MaxSite), id(api.MaxSeq, math.MinInt), id(api.MaxSeq, math.MaxInt), id(3, 1<<32+1),
	}
}

func noClaims() [][]api.Claim {
	return [][]api.Claim{
		nil, list(), list(of(0, 0, 0)), list(of(0, 1, 0)), list(of(-1, 0, 1)), list(of(8, 0, 1)), list(of(0, -1, 1)), list(of(0, 0, api.MaxMinute+1)), list(api.Claim{}),
		list(of(0, 5, 9), of(0, 0, 4)), list(of(1, 0, 4), of(0, 0, 4)), list(of(0, 0, 4), of(0, 4, 9)), list(of(0, 0, 4), of(0, 3, 9)), list(of(0, 0, 4), of(0, 0, 4)),
		claims(api.MaxClaims + 1), claims(1000), slices.Repeat(list(of(0, 0, 1)), api.MaxClaims+1), append(claims(3), of(0, 9, 9)),
	}
}

// noEvents are events that are none, each for one reason.
func noEvents() []api.Event {
	out := []api.Event{{}, {Rule: rule.Once()}, with(hour(), func(e *api.Event) { e.Except = []int{5} })}
	for _, change := range []func(e *api.Event){
		func(e *api.Event) { e.UID = "" },
		func(e *api.Event) { e.UID += "a" },
		func(e *api.Event) { e.UID = "a b" },
		func(e *api.Event) { e.UID = "a\n" },
		func(e *api.Event) { e.UID = "\xe9" },
		func(e *api.Event) { e.Text += "a" },
		func(e *api.Event) { e.Text = "\r" },
		func(e *api.Event) { e.Text = "\x00" },
		func(e *api.Event) { e.Text = "\x7f" },
		func(e *api.Event) { e.Text = "\xff" },
		func(e *api.Event) { e.Start = -1 },
		func(e *api.Event) { e.Start = api.MaxMinute },
		func(e *api.Event) { e.Long = 0 },
		func(e *api.Event) { e.Long = api.MaxLong + 1 },
		func(e *api.Event) { e.Rooms = nil },
		func(e *api.Event) { e.Rooms = []int{0, 1, 2, 3, 4} },
		func(e *api.Event) { e.Rooms = []int{-1} },
		func(e *api.Event) { e.Rooms = []int{api.MaxRoom} },
		func(e *api.Event) { e.Rooms = []int{1, 0} },
		func(e *api.Event) { e.Rooms = []int{1, 1} },
		func(e *api.Event) { e.Rule = api.Rule{} },
		func(e *api.Event) { e.Rule = rule.Once() },
		func(e *api.Event) { e.Rule.Freq = 0 },
		func(e *api.Event) { e.Rule.Freq = 5 },
		func(e *api.Event) { e.Rule.Every = 0 },
		func(e *api.Event) { e.Rule.Every = 101 },
		func(e *api.Event) { e.Rule.Count = 1 },
		func(e *api.Event) { e.Rule.Count, e.Rule.Until = 41, -1 },
		func(e *api.Event) { e.Rule.Until = -2 },
		func(e *api.Event) { e.Rule.Until = api.MaxMinute },
		func(e *api.Event) { e.Rule.ByDay[0].Day = 7 },
		func(e *api.Event) { e.Rule.ByDay[0].N = -6 },
		func(e *api.Event) { e.Rule.ByDay[0], e.Rule.ByDay[1] = e.Rule.ByDay[1], e.Rule.ByDay[0] },
		func(e *api.Event) { e.Rule.ByDay = append(e.Rule.ByDay, api.Weekday{}) },
		func(e *api.Event) { e.Rule.ByMonthDay[11] = 0 },
		func(e *api.Event) { e.Rule.ByMonthDay[0] = -32 },
		func(e *api.Event) { e.Rule.ByMonthDay = append(e.Rule.ByMonthDay, 1) },
		func(e *api.Event) { e.Rule.ByMonth[11] = 13 },
		func(e *api.Event) { e.Rule.ByMonth = nil },
		func(e *api.Event) { e.Except = append([]int{0}, e.Except...) },
		func(e *api.Event) { e.Except[11]++ },
		func(e *api.Event) { e.Except[0] = e.Except[1] },
	} {
		out = append(out, with(full(), change))
	}
	return out
}

// Whether an event can be let is not asked: it is what a customer asks for.
func TestLinesOfWhatCanNotBeLet(t *testing.T) {
	for _, e := range []api.Event{
		with(hour(), func(e *api.Event) { e.Start, e.Long = lastMinute, api.MaxLong }),
		withRule(func(r *api.Rule) { r.Until = 0 }),
		with(withRule(func(r *api.Rule) { r.Count = 3 }), func(e *api.Event) { e.Long = 1441 }),
		withRule(func(r *api.Rule) {}),
	} {
		if !event.Is(e) {
			t.Errorf("%+v is no event", e)
		}
		lineOf(t, api.Deed{Kind: api.DAsk, ID: id(3, 1), Event: e})
	}
}

// The signatures are those of the chapter.
var (
	_ func(d api.Deed) (string, api.Errno) = scribe.Line
	_ func(s string) (api.Deed, api.Errno) = scribe.Read
)
