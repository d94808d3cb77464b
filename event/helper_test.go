package event_test

import (
	"math"
	"reflect"
	"slices"
	"strings"
	"testing"

	"hostelry/api"
	"hostelry/event"
	"hostelry/rule"
)

const lastMinute = api.MaxMinute - 1

// hour is one hour in room 3, at 10:30 on the second of January 2000.
func hour() api.Event {
	return api.Event{UID: "a-1", Start: 2070, Long: 60, Rooms: []int{3}, Rule: rule.Once()}
}

func hourLines() []string {
	return []string{"BEGIN:VEVENT", "UID:a-1", "DTSTART:20000102T103000", "DURATION:PT60M", "X-ROOMS:3", "END:VEVENT"}
}

// full is an event that has as much as one may have.
func full() api.Event {
	return api.Event{
		UID:    "Az0-Zy9x-12B",
		Text:   `a,b;c\d` + "\n" + strings.Repeat("x", 31) + "~",
		Start:  lastMinute,
		Long:   api.MaxLong,
		Rooms:  []int{0, 1, 6, 7},
		Rule:   fullRule(),
		Except: minutes(api.MaxList),
	}
}

func fullRule() api.Rule {
	return api.Rule{
		Freq: api.Yearly, Every: 100, Until: lastMinute,
		ByDay:      []api.Weekday{{N: -5, Day: 0}, {N: 0, Day: 6}, {N: 5, Day: 1}},
		ByMonthDay: []int{-31, -1, 1, 31},
		ByMonth:    []int{1, 2, 12},
	}
}

func fullLines() []string {
	return []string{
		"BEGIN:VEVENT",
		"UID:Az0-Zy9x-12B",
		"DTSTART:20991231T235900",
		"DURATION:PT10080M",
		"RRULE:FREQ=YEARLY;INTERVAL=100;UNTIL=20991231T235900;BYMONTH=1,2,12;BYMONTHDAY=-31,-1,1,31;BYDAY=-5MO,SU,5TU",
		"EXDATE:20000101T000000,20000102T000100,20000103T000200,20000104T000300,20000105T000400,20000106T000500," +
			"20000107T000600,20000108T000700,20000109T000800,20000110T000900,20000111T001000,20000112T001100",
		"X-ROOMS:0,1,6,7",
		`SUMMARY:a\,b\;c\\d\n` + strings.Repeat("x", 31) + "~",
		"END:VEVENT",
	}
}

// minutes gives so many of them, each a day and a minute after the one before it.
func minutes(n int) []int {
	var out []int
	for i := range n {
		out = append(out, i*(api.Day+1))
	}
	return out
}

func daily() api.Rule {
	return api.Rule{Freq: api.Daily, Every: 1, Until: -1}
}

// with gives the event after a change, which may write into its slices.
func with(e api.Event, change func(e *api.Event)) api.Event {
	e = apart(e)
	change(&e)
	return e
}

// apart gives an event that is equal, but shares nothing with the other one.
func apart(e api.Event) api.Event {
	e.Rooms, e.Except = slices.Clone(e.Rooms), slices.Clone(e.Except)
	e.Rule.ByDay = slices.Clone(e.Rule.ByDay)
	e.Rule.ByMonthDay, e.Rule.ByMonth = slices.Clone(e.Rule.ByMonthDay), slices.Clone(e.Rule.ByMonth)
	return e
}

// far are arguments beyond everything that the chapter names.
func far() []int {
	return []int{
		math.MinInt, math.MinInt + 1, math.MinInt32, -api.MaxMinute, api.MaxMinute + 1,
		math.MaxInt32, 1 << 32, math.MaxInt - 1, math.MaxInt,
	}
}

// noRules are rules that are none, each for one reason.
func noRules() []api.Rule {
	changes := []func(r *api.Rule){
		func(r *api.Rule) { r.Freq = 0 },
		func(r *api.Rule) { r.Freq = 5 },
		func(r *api.Rule) { r.Freq = -1 },
		func(r *api.Rule) { r.Every = 0 },
		func(r *api.Rule) { r.Every = 101 },
		func(r *api.Rule) { r.Count = -1 },
		func(r *api.Rule) { r.Count = api.MaxOcc + 1 },
		func(r *api.Rule) { r.Count, r.Until = 1, 0 },
		func(r *api.Rule) { r.Until = -2 },
		func(r *api.Rule) { r.Until = api.MaxMinute },
		func(r *api.Rule) { r.ByDay = []api.Weekday{{Day: 7}} },
		func(r *api.Rule) { r.ByDay = []api.Weekday{{N: 1}} },
		func(r *api.Rule) { r.ByDay = []api.Weekday{{Day: 1}, {Day: 0}} },
		func(r *api.Rule) { r.ByMonthDay = []int{0} },
		func(r *api.Rule) { r.ByMonth = []int{13} },
		func(r *api.Rule) { r.ByMonth = []int{1, 1} },
	}
	out := []api.Rule{{}, {Until: 0}, {Until: -1, Every: 1}, {Until: -1, Count: 1}, {Until: -1, ByMonth: []int{1}}}
	for _, change := range changes {
		r := daily()
		change(&r)
		out = append(out, r)
	}
	return out
}

// noEvents are events that are none, each for one reason.
func noEvents() []api.Event {
	changes := []func(e *api.Event){
		func(e *api.Event) { e.UID = "" },
		func(e *api.Event) { e.UID += "a" },
		func(e *api.Event) { e.UID = "a b" },
		func(e *api.Event) { e.Text += "a" },
		func(e *api.Event) { e.Text = "\r" },
		func(e *api.Event) { e.Start = -1 },
		func(e *api.Event) { e.Start = api.MaxMinute },
		func(e *api.Event) { e.Long = 0 },
		func(e *api.Event) { e.Long = api.MaxLong + 1 },
		func(e *api.Event) { e.Rooms = nil },
		func(e *api.Event) { e.Rooms = []int{} },
		func(e *api.Event) { e.Rooms = []int{0, 1, 2, 3, 4} },
		func(e *api.Event) { e.Rooms = []int{-1} },
		func(e *api.Event) { e.Rooms = []int{api.MaxRoom} },
		func(e *api.Event) { e.Rooms = []int{1, 0} },
		func(e *api.Event) { e.Rooms = []int{1, 1} },
		func(e *api.Event) { e.Rule = api.Rule{} },
		func(e *api.Event) { e.Rule = rule.Once() },
		func(e *api.Event) { e.Rule.Every = 0 },
		func(e *api.Event) { e.Except = minutes(api.MaxList + 1) },
		func(e *api.Event) { e.Except = []int{-1} },
		func(e *api.Event) { e.Except = []int{api.MaxMinute} },
		func(e *api.Event) { e.Except = []int{1, 0} },
		func(e *api.Event) { e.Except = []int{1, 1} },
	}
	out := []api.Event{{}}
	for _, change := range changes {
		out = append(out, with(full(), change))
	}
	return out
}

// events are some of all kinds.
func events() []api.Event {
	return []api.Event{
		hour(),
		full(),
		with(hour(), func(e *api.Event) { e.Start, e.Long, e.Rooms = 0, 1, []int{0} }),
		with(hour(), func(e *api.Event) { e.Text = "a" }),
		with(hour(), func(e *api.Event) { e.Rule = daily() }),
		with(hour(), func(e *api.Event) { e.Rule, e.Except = daily(), []int{0, lastMinute} }),
		with(hour(), func(e *api.Event) { e.Rule, e.Text = daily(), " " }),
		with(full(), func(e *api.Event) { e.Except = nil }),
		with(full(), func(e *api.Event) { e.Text = "" }),
		with(full(), func(e *api.Event) { e.Text = strings.Repeat("\n", api.MaxText) }),
		with(full(), func(e *api.Event) { e.Rooms = []int{7} }),
	}
}

// eachList calls do with each list of up to so many of these numbers.
func eachList(most int, numbers []int, do func(l []int)) {
	var more func(l []int)
	more = func(l []int) {
		do(l)
		if len(l) == most {
			return
		}
		for _, n := range numbers {
			more(append(slices.Clip(l), n))
		}
	}
	more(nil)
}

// byteTexts are texts of this byte alone, and between others, of up to five bytes.
func byteTexts(b int) []string {
	s := string([]byte{byte(b)})
	return []string{s, s + s, s + "a", "a" + s, "a" + s + "b", "a-" + s + "-9", s + s + s + s + s}
}

// beyond are signs that look or change like those of ASCII, and bytes that make none.
func beyond() []string {
	return []string{
		"\u017f", "\u0131", "\u0130", "\u212a", "\u00e9", "\u00df", "\u0410", "\u0391", "\uff21", "\uff41", "\u0660", "\uff11", "\u00b2",
		"\u2010", "\u2212", "\u00ad", "\u00a0", "\u2028", "\u0085", "\ufeff", "\ufffd", "\U0001f600", "\x80", "\xc1", "\xe1", "\xff", "\xc3",
	}
}

// lines puts what begins and ends an event around these lines.
func lines(between ...string) []string {
	return append(append([]string{"BEGIN:VEVENT"}, between...), "END:VEVENT")
}

// joined gives the lines of several lists, in a list of their own.
func joined(lists ...[]string) []string {
	return slices.Concat(lists...)
}

func expectIs(t *testing.T, e api.Event, want bool) {
	t.Helper()
	if got := event.Is(e); got != want {
		t.Errorf("Is(%+v) = %v", e, got)
	}
}

func expectSame(t *testing.T, a, b api.Event, want bool) {
	t.Helper()
	if got := event.Same(a, b); got != want {
		t.Errorf("Same(%+v, %+v) = %v", a, b, got)
	}
	if got := event.Same(b, a); got != want {
		t.Errorf("Same(%+v, %+v) = %v", b, a, got)
	}
}

func expectLines(t *testing.T, e api.Event, want ...string) {
	t.Helper()
	if got := event.Lines(e); !slices.Equal(got, want) {
		t.Errorf("Lines(%+v) = %q, want %q", e, got, want)
	}
}

// expectEvent expects the event in the first n lines.
func expectEvent(t *testing.T, l []string, want api.Event, n int) {
	t.Helper()
	if got, m, err := event.Read(l); err != api.OK || m != n || !equal(got, want) {
		t.Errorf("Read(%q) = %+v, %d, %v, want %+v, %d", l, got, m, err, want, n)
	}
}

// expectFault expects no event, and that this line is told.
func expectFault(t *testing.T, l []string, index int) {
	t.Helper()
	if got, n, err := event.Read(l); err != api.ErrForm || n != index || !equal(got, api.Event{}) {
		t.Errorf("Read(%q) = %+v, %d, %v, want nothing, %d, %v", l, got, n, err, index, api.ErrForm)
	}
}

// equal asks Go itself, for which a list that is nil is not an empty one.
func equal(a, b api.Event) bool {
	return reflect.DeepEqual(settled(a), settled(b))
}

// settled gives the event with nil for each list that is empty.
func settled(e api.Event) api.Event {
	e = apart(e)
	settle(&e.Rooms)
	settle(&e.Except)
	settle(&e.Rule.ByDay)
	settle(&e.Rule.ByMonthDay)
	settle(&e.Rule.ByMonth)
	return e
}

func settle[E any](l *[]E) {
	if len(*l) == 0 {
		*l = nil
	}
}
