package cal_test

import (
	"fmt"
	"reflect"
	"slices"
	"strconv"
	"strings"
	"testing"

	"hostelry/api"
	"hostelry/cal"
	"hostelry/rule"
)

const (
	head = "BEGIN:VCALENDAR\r\nVERSION:2.0\r\n"
	foot = "END:VCALENDAR\r\n"
)

// hour is one hour in room 3, at 10:30 on the second of January 2000.
func hour(uid string, changes ...func(e *api.Event)) api.Event {
	e := api.Event{UID: uid, Start: 2070, Long: 60, Rooms: []int{3}, Rule: rule.Once()}
	for _, change := range changes {
		change(&e)
	}
	return e
}

func hourLines(uid string) []string {
	return []string{"BEGIN:VEVENT", "UID:" + uid, "DTSTART:20000102T103000", "DURATION:PT60M", "X-ROOMS:3", "END:VEVENT"}
}

// full is an event that has as much as one may have.
func full(uid string) api.Event {
	return api.Event{
		UID:   uid,
		Text:  strings.Repeat(`a,b;c\d`+"\n", 5),
		Start: api.MaxMinute - 1,
		Long:  api.MaxLong,
		Rooms: []int{0, 1, 6, 7},
		Rule: api.Rule{
			Freq: api.Yearly, Every: 100, Until: api.MaxMinute - 1,
			ByDay:      []api.Weekday{{N: -5, Day: 0}, {N: 0, Day: 6}, {N: 5, Day: 1}},
			ByMonthDay: []int{-31, -1, 1, 31},
			ByMonth:    []int{1, 2, 12},
		},
		Except: minutes(api.MaxList),
	}
}

func fullLines(uid string) []string {
	return []string{
		"BEGIN:VEVENT",
		"UID:" + uid,
		"DTSTART:20991231T235900",
		"DURATION:PT10080M",
		"RRULE:FREQ=YEARLY;INTERVAL=100;UNTIL=20991231T235900;BYMONTH=1,2,12;BYMONTHDAY=-31,-1,1,31;BYDAY=-5MO,SU,5TU",
		"EXDATE:20000101T000000,20000102T000100,20000103T000200,20000104T000300,20000105T000400,20000106T000500," +
			"20000107T000600,20000108T000700,20000109T000800,20000110T000900,20000111T001000,20000112T001100",
		"X-ROOMS:0,1,6,7",
		`SUMMARY:` + strings.Repeat(`a\,b\;c\\d\n`, 5),
		"END:VEVENT",
	}
}

// minutes gives so many of them, each a day and a minute after the one before it.
func minutes(n int) []int {
	var out []int
	for i := range n {
		out = append(out, i*(api.Day+1))
	}
	return out
}

func daily(e *api.Event) {
	e.Rule = api.Rule{Freq: api.Daily, Every: 1, Until: -1}
}

// noEvents are events that are none, each for one reason.
func noEvents(uid string) []api.Event {
	return []api.Event{
		{},
		hour(""),
		hour(uid + " "),
		hour("1234567890123"),
		hour(uid, func(e *api.Event) { e.Text = strings.Repeat("a", api.MaxText+1) }),
		hour(uid, func(e *api.Event) { e.Text = "a\r\nb" }),
		hour(uid, func(e *api.Event) { e.Start = -1 }),
		hour(uid, func(e *api.Event) { e.Start = api.MaxMinute }),
		hour(uid, func(e *api.Event) { e.Long = 0 }),
		hour(uid, func(e *api.Event) { e.Long = api.MaxLong + 1 }),
		hour(uid, func(e *api.Event) { e.Rooms = nil }),
		hour(uid, func(e *api.Event) { e.Rooms = []int{api.MaxRoom} }),
		hour(uid, func(e *api.Event) { e.Rooms = []int{2, 1} }),
		hour(uid, func(e *api.Event) { e.Rule = api.Rule{} }),
		hour(uid, func(e *api.Event) { e.Except = []int{2070} }),
		hour(uid, daily, func(e *api.Event) { e.Except = []int{1, 1} }),
		hour(uid, daily, func(e *api.Event) { e.Except = minutes(api.MaxList + 1) }),
	}
}

// some are events of several kinds, no two with the same UID.
func some() []api.Event {
	return []api.Event{
		hour("b"),
		full("Az0-Zy9x-12B"),
		hour("a", func(e *api.Event) { e.Text = "no, it isn't" }),
		hour("-", daily),
		hour("B", daily, func(e *api.Event) { e.Except, e.Text = []int{0, api.MaxMinute - 1}, "\n" }),
		full("c"),
		hour("aa", func(e *api.Event) { e.Start, e.Long, e.Rooms = 0, 1, []int{0, 7} }),
	}
}

// joined gives the lines of several lists, in a list of their own.
func joined(lists ...[]string) []string {
	return slices.Concat(lists...)
}

// around puts what begins and ends a calendar around these lines.
func around(between ...string) []string {
	return joined([]string{"BEGIN:VCALENDAR", "VERSION:2.0"}, between, []string{"END:VCALENDAR"})
}

// inserted gives the lines with further ones, in a list of their own.
func inserted(l []string, at int, more ...string) []string {
	return joined(l[:at], more, l[at:])
}

// without gives the lines but for one, in a list of their own.
func without(l []string, at int) []string {
	return joined(l[:at], l[at+1:])
}

// text gives the text of these lines, as they are.
func text(lines ...string) string {
	var out strings.Builder
	for _, l := range lines {
		out.WriteString(l + "\r\n")
	}
	return out.String()
}

// brief tells a text or events, but no more than can be looked through.
func brief(x any) string {
	const most = 1500
	s := fmt.Sprintf("%+v", x)
	if text, ok := x.(string); ok {
		s = strconv.Quote(text)
	}
	if len(s) > most {
		return s[:most/2] + " .. " + s[len(s)-most/2:]
	}
	return s
}

func expectText(t *testing.T, l []api.Event, want string) {
	t.Helper()
	if got, err := cal.Print(l); got != want || err != api.OK {
		t.Errorf("Print(%s) = %s, %v, want %s", brief(l), brief(got), err, brief(want))
	}
}

func expectNoText(t *testing.T, l []api.Event, want api.Errno) {
	t.Helper()
	if got, err := cal.Print(l); got != "" || err != want {
		t.Errorf("Print(%s) = %s, %v, want nothing and %v", brief(l), brief(got), err, want)
	}
}

// expectEvents expects a calendar of n lines with just these events.
func expectEvents(t *testing.T, s string, n int, want ...api.Event) {
	t.Helper()
	if got, m, err := cal.Parse(s); err != api.OK || m != n || !equal(got, want) {
		t.Errorf("Parse(%s) = %s, %d, %v, want %s, %d", brief(s), brief(got), m, err, brief(want), n)
	}
}

// expectFault expects no events, and that this line is told.
func expectFault(t *testing.T, s string, index int) {
	t.Helper()
	if got, n, err := cal.Parse(s); err != api.ErrForm || n != index || len(got) != 0 {
		t.Errorf("Parse(%s) = %s, %d, %v, want nothing, %d, %v", brief(s), brief(got), n, err, index, api.ErrForm)
	}
}

func expectTooLong(t *testing.T, s string) {
	t.Helper()
	if got, n, err := cal.Parse(s); err != api.ErrLong || n != 0 || len(got) != 0 {
		t.Errorf("Parse(%s) = %s, %d, %v, want nothing, 0, %v", brief(s), brief(got), n, err, api.ErrLong)
	}
}

// equal asks Go itself, for which a list that is nil is not an empty one.
func equal(a, b []api.Event) bool {
	return slices.EqualFunc(a, b, func(a, b api.Event) bool {
		return reflect.DeepEqual(settled(a), settled(b))
	})
}

// settled gives the event with nil for each list that is empty.
func settled(e api.Event) api.Event {
	settle(&e.Rooms)
	settle(&e.Except)
	settle(&e.Rule.ByDay)
	settle(&e.Rule.ByMonthDay)
	settle(&e.Rule.ByMonth)
	return e
}

func settle[E any](l *[]E) {
	if len(*l) == 0 {
		*l = nil
	}
}
