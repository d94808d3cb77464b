package claim_test

import (
	"math/rand"
	"reflect"
	"slices"
	"strings"
	"testing"

	"hostelry/api"
	"hostelry/civil"
	"hostelry/claim"
	"hostelry/event"
	"hostelry/expand"
	"hostelry/rule"
)

// P12.2

func minute(t *testing.T, year, month, day, time int) int {
	t.Helper()
	m, err := civil.Minute(api.Date{Year: year, Month: month, Day: day}, time/60, time%60)
	if err != api.OK {
		t.Fatalf("%d-%d-%d: %v", year, month, day, err)
	}
	return m
}

func expectOf(t *testing.T, e api.Event, want ...api.Claim) {
	t.Helper()
	if got, err := claim.Of(e); err != api.OK || !slices.Equal(got, want) {
		t.Errorf("Of(%+v) = %v, %v, want %v", e, got, err, want)
	}
}

func expectNone(t *testing.T, e api.Event, want api.Errno) {
	t.Helper()
	if got, err := claim.Of(e); err != want || len(got) != 0 {
		t.Errorf("Of(%+v) = %v, %v, want %v", e, got, err, want)
	}
}

// at gives the claims to each of the rooms, so long from each of the minutes on.
func at(rooms []int, n int, minutes ...int) []api.Claim {
	var out []api.Claim
	for _, room := range rooms {
		for _, m := range minutes {
			out = append(out, of(room, m, m+n))
		}
	}
	return out
}

// ofByWords gives what the chapter's words ask for.
func ofByWords(e api.Event) ([]api.Claim, api.Errno) {
	if !event.Is(e) {
		return nil, api.ErrForm
	}
	l, err := expand.Spans(e.Rule, e.Start, e.Long, e.Except)
	if err != api.OK {
		return nil, err
	}
	var out []api.Claim
	for i, a := range l {
		for _, b := range l[:i] {
			if a.From < b.To && b.From < a.To {
				return nil, api.ErrMany
			}
		}
		for _, room := range e.Rooms {
			out = append(out, api.Claim{Room: room, Span: a})
		}
	}
	return neatByWords(func(room, m int) bool { return has(out, room, m) }, out), api.OK
}

func TestOfAnEventThatHappensOnce(t *testing.T) {
	expectOf(t, one(), of(3, 2070, 2130))
	expectOf(t, one(in(2, 3)), of(2, 2070, 2130), of(3, 2070, 2130)) // the example: 120 room minutes
	if l, _ := claim.Of(one(in(2, 3))); claim.Long(l) != 120 {
		t.Errorf("Long of %v = %d", l, claim.Long(l))
	}
	expectOf(t, one(in(0, 1, 6, 7)), at([]int{0, 1, 6, 7}, 60, 2070)...)
	for room := range api.MaxRoom {
		expectOf(t, one(in(room)), of(room, 2070, 2130))
	}
	for _, n := range []int{1, 2, api.Day, api.Day + 1, api.MaxLong - 1, api.MaxLong} {
		expectOf(t, one(long(n)), of(3, 2070, 2070+n))
		expectOf(t, one(long(n), from(0)), of(3, 0, n))
		expectOf(t, one(long(n), from(api.MaxMinute-n), in(0, 7)), of(0, api.MaxMinute-n, api.MaxMinute), of(7, api.MaxMinute-n, api.MaxMinute))
	}
}

func TestOfEachKindOfRule(t *testing.T) {
	rooms := []int{0, 3, 7}
	// The fourth of March 2024 is a Monday.
	start := minute(t, 2024, 3, 4, 600)
	for _, c := range []struct {
		r    api.Rule
		want []int
	}{
		{api.Rule{Freq: api.Daily, Every: 1, Count: 3, Until: -1}, steps(start, api.Day, 3)},
		{api.Rule{Freq: api.Daily, Every: 2, Until: start + 5*api.Day}, steps(start, 2*api.Day, 3)},
		{api.Rule{Freq: api.Daily, Every: 1, Count: api.MaxOcc, Until: -1}, steps(start, api.Day, api.MaxOcc)},
		{api.Rule{Freq: api.Daily, Every: 1, Until: start}, []int{start}},
		{api.Rule{Freq: api.Weekly, Every: 1, Count: 4, Until: -1}, steps(start, 7*api.Day, 4)},
		{api.Rule{Freq: api.Weekly, Every: 1, Count: 3, Until: -1, ByDay: []api.Weekday{{Day: 0}, {Day: 3}}}, []int{start, start + 3*api.Day, start + 7*api.Day}},
		{api.Rule{Freq: api.Monthly, Every: 1, Count: 3, Until: -1}, []int{start, minute(t, 2024, 4, 4, 600), minute(t, 2024, 5, 4, 600)}},
		{api.Rule{Freq: api.Monthly, Every: 1, Count: 2, Until: -1, ByDay: []api.Weekday{{N: -1, Day: 4}}}, []int{minute(t, 2024, 3, 29, 600), minute(t, 2024, 4, 26, 600)}},
		{api.Rule{Freq: api.Monthly, Every: 1, Count: 2, Until: -1, ByMonthDay: []int{-1}}, []int{minute(t, 2024, 3, 31, 600), minute(t, 2024, 4, 30, 600)}},
		{api.Rule{Freq: api.Yearly, Every: 1, Count: 2, Until: -1}, []int{start, minute(t, 2025, 3, 4, 600)}},
		{api.Rule{Freq: api.Yearly, Every: 1, Count: 2, Until: -1, ByMonthDay: []int{29}, ByMonth: []int{2}}, []int{minute(t, 2028, 2, 29, 600), minute(t, 2032, 2, 29, 600)}},
		{api.Rule{Freq: api.Yearly, Every: 50, Until: -1}, []int{start, minute(t, 2074, 3, 4, 600)}},
	} {
		for _, n := range []int{1, 60, api.Day - 1} {
			e := one(from(start), long(n), by(c.r))
			expectOf(t, e, at([]int{3}, n, c.want...)...)
			e.Rooms = rooms
			expectOf(t, e, at(rooms, n, c.want...)...)
			e.Rooms = []int{7, 3, 0} // such rooms make no event
			expectNone(t, e, api.ErrForm)
			e.Rooms, e.Except = rooms, c.want[len(c.want)-1:]
			if len(c.want) == 1 {
				expectNone(t, e, api.ErrEmpty)
				continue
			}
			expectOf(t, e, at(rooms, n, c.want[:len(c.want)-1]...)...)
			e.Except = c.want[:1]
			expectOf(t, e, at(rooms, n, c.want[1:]...)...)
		}
	}
}

func TestOfAsManyClaimsAsThereMayBe(t *testing.T) {
	rooms := []int{0, 2, 4, 6}
	e := one(in(rooms...), daily(api.MaxOcc), long(api.Day-1))
	expectOf(t, e, at(rooms, api.Day-1, steps(2070, api.Day, api.MaxOcc)...)...)
	if l, _ := claim.Of(e); len(l) != api.MaxClaims {
		t.Errorf("%d claims", len(l))
	}
}

func TestOfWithExceptions(t *testing.T) {
	days := steps(2070, api.Day, 12)
	expectOf(t, one(daily(3), but(days[1])), at([]int{3}, 60, days[0], days[2])...)
	expectOf(t, one(daily(3), but(days[0], days[2])), of(3, days[1], days[1]+60))
	expectOf(t, one(daily(12), but(days[:11]...)), of(3, days[11], days[11]+60))
	expectOf(t, one(daily(12), but(days[1:]...), in(0, 7)), at([]int{0, 7}, 60, 2070)...)
	// What is not one of its occurrences changes nothing.
	expectOf(t, one(daily(3), but(0, 2069, 2071, 2129, days[3], lastMinute)), at([]int{3}, 60, days[:3]...)...)
	// What is left touches no more.
	expectOf(t, one(daily(3), long(api.Day), but(days[1])), of(3, days[0], days[1]), of(3, days[2], days[3]))
	for n := 1; n <= len(days); n++ {
		expectNone(t, one(daily(n), but(days[:n]...)), api.ErrEmpty)
		expectNone(t, one(daily(n), but(days...), in(0, 7)), api.ErrEmpty)
	}
}

// P12.2: spans that touch, and spans that overlap

func TestTheDailyRuleByLengths(t *testing.T) {
	for _, start := range []int{0, 600, 2070, api.MaxMinute - 3*api.Day - 1} {
		for _, rooms := range [][]int{{0}, {7}, {1, 2, 5}} {
			asked := func(n int) api.Event { return one(from(start), daily(3), long(n), in(rooms...)) }
			expectOf(t, asked(1439), at(rooms, 1439, steps(start, 1440, 3)...)...)
			expectOf(t, asked(1440), at(rooms, 3*1440, start)...)
			for _, n := range []int{1441, 1442, 2 * 1440} {
				if start+2*1440+n <= api.MaxMinute {
					expectNone(t, asked(n), api.ErrMany)
				}
			}
		}
	}
	expectNone(t, one(daily(3), long(api.MaxLong)), api.ErrMany)
	expectOf(t, one(daily(1), long(api.MaxLong)), of(3, 2070, 2070+api.MaxLong))
	expectNone(t, one(daily(2), long(1441)), api.ErrMany)
	expectOf(t, one(daily(api.MaxOcc), long(1440)), of(3, 2070, 2070+api.MaxOcc*1440))
	expectNone(t, one(daily(api.MaxOcc), long(1441)), api.ErrMany)
}

func TestWhichOfTheSpansOverlap(t *testing.T) {
	thirty := minute(t, 2001, 1, 31, 600)
	ends := api.Rule{Freq: api.Monthly, Every: 1, Count: 3, Until: -1, ByMonthDay: []int{-1, 1}}
	first, last := minute(t, 2001, 1, 1, 600), minute(t, 2001, 2, 28, 600)
	// The last two: the first of January, its last day, and the day behind it.
	expectOf(t, one(from(first), by(ends), long(1440)), of(3, first, first+1440), of(3, thirty, thirty+2*1440))
	expectNone(t, one(from(first), by(ends), long(1441)), api.ErrMany)
	// The first two: the last day of January, the day behind it, and the last day of February.
	expectOf(t, one(from(thirty), by(ends), long(1440)), of(3, thirty, thirty+2*1440), of(3, last, last+1440))
	expectNone(t, one(from(thirty), by(ends), long(1441)), api.ErrMany)
	// Those that overlap are left out.
	expectOf(t, one(from(first), by(ends), long(1441), but(thirty)), at([]int{3}, 1441, first, thirty+1440)...)
	expectOf(t, one(from(first), by(ends), long(1441), but(thirty+1440)), at([]int{3}, 1441, first, thirty)...)
	expectNone(t, one(from(first), by(ends), long(1441), but(first)), api.ErrMany)
	days := steps(2070, api.Day, 5)
	expectOf(t, one(daily(3), long(1441), but(days[1])), at([]int{3}, 1441, days[0], days[2])...)
	expectOf(t, one(daily(3), long(2*1440), but(days[1])), of(3, days[0], days[4]))
	expectNone(t, one(daily(3), long(2*1440+1), but(days[1])), api.ErrMany)
	expectNone(t, one(daily(5), long(1441), but(days[1])), api.ErrMany)
	expectNone(t, one(daily(5), long(1441), but(days[3])), api.ErrMany)
	expectOf(t, one(daily(5), long(1441), but(days[1], days[3])), at([]int{3}, 1441, days[0], days[2], days[4])...)
	// Those of a week touch at most.
	weekly := api.Rule{Freq: api.Weekly, Every: 1, Count: 3, Until: -1}
	expectOf(t, one(by(weekly), long(api.MaxLong)), of(3, 2070, 2070+3*api.MaxLong))
	weekly.ByDay = []api.Weekday{{Day: 0}, {Day: 2}}
	monday := minute(t, 2024, 3, 4, 600)
	expectOf(t, one(from(monday), by(weekly), long(2*1440)), of(3, monday, monday+4*1440), of(3, monday+7*1440, monday+9*1440))
	expectNone(t, one(from(monday), by(weekly), long(2*1440+1)), api.ErrMany)
}

// P12.2: the errors

// noEvents are such as are none, each for one reason.
func noEvents() []api.Event {
	return []api.Event{
		{},
		one(func(e *api.Event) { e.UID = "" }),
		one(func(e *api.Event) { e.UID = "a b" }),
		one(func(e *api.Event) { e.UID = strings.Repeat("a", api.MaxUID+1) }),
		one(func(e *api.Event) { e.Text = strings.Repeat("a", api.MaxText+1) }),
		one(func(e *api.Event) { e.Text = "\t" }),
		one(from(-1)), one(from(api.MaxMinute)), // else expand's ErrRange
		one(long(0)), one(long(-1)), one(long(api.MaxLong + 1)), // else its ErrLong
		one(in()), one(in(0, 1, 2, 3, 4)), one(in(4, 3)), one(in(3, 3)), one(in(-1)), one(in(8)), one(in(3, 8)), one(in(-1, 3)),
		one(by(api.Rule{})), one(by(api.Rule{Freq: api.Daily, Until: -1})), one(by(api.Rule{Freq: 5, Every: 1, Until: -1})), // else its ErrRule
		one(daily(api.MaxOcc + 1)), one(daily(-1)),
		one(daily(3), but(-1)), one(daily(3), but(api.MaxMinute)), one(daily(3), but(5, 4)), one(daily(3), but(5, 5)), one(daily(3), but(steps(0, 1, api.MaxList+1)...)),
		one(but(0)), one(but(2070)),
	}
}

func TestEachErrorAlone(t *testing.T) {
	for _, e := range noEvents() {
		expectNone(t, e, api.ErrForm)
	}
	for _, freq := range []int{api.Daily, api.Weekly, api.Monthly, api.Yearly} {
		r := api.Rule{Freq: freq, Every: 1, Until: -1}
		expectNone(t, one(by(r)), api.ErrMany) // too many occurrences
		expectNone(t, one(by(r), from(lastMinute), long(2)), api.ErrRange)
		expectOf(t, one(by(r), from(lastMinute), long(1)), of(3, lastMinute, api.MaxMinute))
		r.Count = 1
		expectNone(t, one(by(r), but(2070)), api.ErrEmpty)
	}
	expectNone(t, one(by(api.Rule{Freq: api.Monthly, Every: 1, Until: -1, ByMonthDay: []int{30}, ByMonth: []int{2}})), api.ErrEmpty) // no day at all
	expectNone(t, one(from(lastMinute)), api.ErrRange)
	expectNone(t, one(from(api.MaxMinute-59), in(0, 7)), api.ErrRange)
	expectOf(t, one(from(api.MaxMinute-60)), of(3, api.MaxMinute-60, api.MaxMinute))
	expectNone(t, one(daily(3), long(1441)), api.ErrMany) // two that overlap
	// 40 occurrences are not too many.
	many := api.Rule{Freq: api.Daily, Every: 1, Until: 2070 + 39*api.Day}
	expectOf(t, one(by(many)), at([]int{3}, 60, steps(2070, api.Day, 40)...)...)
	many.Until += api.Day
	expectNone(t, one(by(many)), api.ErrMany)
}

func TestTheOrderOfErrors(t *testing.T) {
	endless, late := api.Rule{Freq: api.Daily, Every: 1, Until: -1}, api.MaxMinute-3*api.Day-1
	faults := []func(e *api.Event){
		func(e *api.Event) { e.UID = "" },
		func(e *api.Event) { e.Text = "\t" },
		func(e *api.Event) { e.Rooms = nil },
		func(e *api.Event) { e.Rooms = []int{3, 8} },
	}
	for _, no := range faults {
		expectNone(t, one(no, by(api.Rule{})), api.ErrForm)                                         // and ErrRule
		expectNone(t, one(no, from(-1)), api.ErrForm)                                               // and ErrRange
		expectNone(t, one(no, long(api.MaxLong+1)), api.ErrForm)                                    // and ErrLong
		expectNone(t, one(no, by(endless)), api.ErrForm)                                            // and ErrMany
		expectNone(t, one(no, daily(1), but(2070)), api.ErrForm)                                    // and ErrEmpty
		expectNone(t, one(no, from(lastMinute)), api.ErrForm)                                       // and a span's ErrRange
		expectNone(t, one(no, daily(3), long(1441)), api.ErrForm)                                   // and spans that overlap
		expectNone(t, one(no, from(late), daily(3), long(1442)), api.ErrForm)                       // and both
		expectNone(t, one(no, daily(3), long(1441), but(steps(2070, 1440, 3)...)), api.ErrForm)     // and ErrEmpty
		expectNone(t, one(no, by(endless), from(lastMinute-50*api.Day), long(2)), api.ErrForm)      // and ErrMany, and ErrRange
		expectNone(t, one(no, by(api.Rule{}), from(-1), long(0), but(-1), in(8)), api.ErrForm)      // and all of them
		expectNone(t, one(no, by(endless), long(1441), but(steps(2070, 1440, 12)...)), api.ErrForm) // and ErrMany
	}
	expectNone(t, one(by(endless), from(lastMinute-50*api.Day), long(2)), api.ErrMany) // and ErrRange
	expectNone(t, one(from(lastMinute), daily(1), long(2), but(lastMinute)), api.ErrEmpty)
	expectNone(t, one(daily(3), long(1441), but(steps(2070, 1440, 3)...)), api.ErrEmpty) // and spans that would overlap
	expectNone(t, one(from(late), daily(3), long(1442)), api.ErrRange)                   // and spans that overlap
	expectNone(t, one(from(late), daily(3), long(1441)), api.ErrMany)                    // in time, but they overlap
	expectOf(t, one(from(late), daily(3), long(1440)), of(3, late, api.MaxMinute-1))
	expectNone(t, one(from(late), daily(2), long(api.MaxLong)), api.ErrRange)
	// What would end too late, or overlap, is left out.
	expectOf(t, one(from(late), daily(3), long(1442), but(late+1440, late+2*1440)), of(3, late, late+1442))
}

func TestOfByTheWordsOfTheChapter(t *testing.T) {
	rnd := rand.New(rand.NewSource(122))
	count := map[api.Errno]int{}
	for range 4000 {
		start := []int{rnd.Intn(api.MaxMinute), rnd.Intn(3 * api.Day), api.MaxMinute - 1 - rnd.Intn(30*api.Day)}[rnd.Intn(3)]
		r := api.Rule{Freq: 1 + rnd.Intn(4), Every: 1 + rnd.Intn(3), Count: rnd.Intn(12), Until: -1}
		if r.Count == 0 {
			r.Until = min(start+rnd.Intn(60*api.Day), lastMinute)
		}
		if r.Freq <= api.Weekly {
			for day := rnd.Intn(7); day < 7; day += 1 + rnd.Intn(7) {
				r.ByDay = append(r.ByDay, api.Weekday{Day: day})
			}
		}
		if rnd.Intn(9) == 0 {
			r = rule.Once()
		}
		e := one(from(start), by(r), long(1+rnd.Intn([]int{60, 2 * api.Day, api.MaxLong + 5}[rnd.Intn(3)])), in(rnd.Intn(2), 2+rnd.Intn(3), 5+rnd.Intn(4)))
		if starts, err := expand.Starts(r, start, nil); err == api.OK && !rule.Same(r, rule.Once()) && rnd.Intn(3) == 0 {
			for _, m := range starts[:min(len(starts), api.MaxList)] {
				if rnd.Intn(3) > 0 {
					e.Except = append(e.Except, m)
				}
			}
		}
		want, wantErr := ofByWords(e)
		got, err := claim.Of(e)
		if err != wantErr || !slices.Equal(got, want) {
			t.Fatalf("Of(%+v) = %v, %v, want %v, %v", e, got, err, want, wantErr)
		}
		count[err]++
	}
	for _, err := range []api.Errno{api.OK, api.ErrForm, api.ErrRange, api.ErrMany, api.ErrEmpty} {
		if count[err] < 50 {
			t.Errorf("%v: too few of one kind", count)
		}
	}
}

// P12.3

func TestABookingConsistsOfRoomMinutes(t *testing.T) {
	e := one(in(0, 3, 7), daily(5), long(90), but(2070+api.Day))
	l, err := claim.Of(e)
	if err != api.OK || claim.Long(l) != 3*4*90 {
		t.Fatalf("%v, %v", l, err)
	}
	starts, _ := expand.Starts(e.Rule, e.Start, e.Except)
	for _, c := range l {
		if !claim.Is(c) || !slices.Contains(e.Rooms, c.Room) || !slices.Contains(starts, c.Span.From) || c.Span.To != c.Span.From+e.Long {
			t.Errorf("%v is none of its claims", c)
		}
	}
	if !slices.Equal(l, claim.Neat(l)) || !claim.Same(l, turned(l)) {
		t.Errorf("%v is not neat", l)
	}
	// Two bookings for the same hour have no room minute in common in different rooms, or if they only touch.
	other, _ := claim.Of(one(in(1, 2, 4), daily(5), long(90)))
	behind, _ := claim.Of(one(in(0, 3, 7), daily(5), long(90), from(2160)))
	expect(t, "Meet", claim.Meet(l, other), nil, l, other)
	expect(t, "Meet", claim.Meet(l, behind), nil, l, behind)
	over, _ := claim.Of(one(in(7), from(2159)))
	expect(t, "Meet", claim.Meet(l, over), list(of(7, 2159, 2160)), l, over)
}

// The rules of DOC.md.

func TestOfLeavesTheEvent(t *testing.T) {
	full := api.Rule{Freq: api.Yearly, Every: 1, Count: 3, Until: -1, ByDay: []api.Weekday{{N: -1, Day: 4}, {N: 1, Day: 0}}, ByMonthDay: []int{-1, 1}, ByMonth: []int{1, 5}}
	for _, e := range append(noEvents(), one(), one(daily(3), but(2070), in(0, 7)), one(daily(3), long(1440)), one(daily(3), long(1441)), one(by(full)), one(from(lastMinute))) {
		spare := func(e *api.Event) {
			e.Rooms = append(slices.Clone(e.Rooms), 1, 0)[:len(e.Rooms)]
			e.Except = append(slices.Clone(e.Except), 1, 0)[:len(e.Except)]
			e.Rule.ByMonthDay = append(slices.Clone(e.Rule.ByMonthDay), 1, 0)[:len(e.Rule.ByMonthDay)]
		}
		was := event.Copy(e)
		spare(&was)
		spare(&e)
		first, firstErr := claim.Of(e)
		want := slices.Clone(first)
		second, _ := claim.Of(e)
		spoil(first)
		if !slices.Equal(second, want) {
			t.Errorf("Of(%+v): a change of one result shows in another", e)
		}
		if third, err := claim.Of(e); err != firstErr || !slices.Equal(third, want) {
			t.Errorf("Of(%+v) = %v, %v, want %v, %v", e, third, err, want, firstErr)
		}
		if !event.Same(e, was) || !reflect.DeepEqual(spares(e), spares(was)) {
			t.Errorf("%+v became %+v", was, e)
		}
		// Nor is it kept.
		for _, l := range [][]int{e.Rooms, e.Except, e.Rule.ByMonthDay} {
			for i := range l {
				l[i] = -99
			}
		}
		if !slices.Equal(second, want) {
			t.Errorf("Of(%+v) changes with the event", was)
		}
	}
}

// spares gives what lies behind the lists of an event that has two more there.
func spares(e api.Event) [][]int {
	behind := func(l []int) []int { return l[len(l) : len(l)+2] }
	return [][]int{behind(e.Rooms), behind(e.Except), behind(e.Rule.ByMonthDay)}
}
