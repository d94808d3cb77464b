package expand_test

import (
	"math"
	"slices"
	"testing"

	"hostelry/api"
	"hostelry/civil"
	"hostelry/expand"
)

const lastMinute = api.MaxMinute - 1

// each gives the rule of this frequency that has no lists and no end.
func each(freq, every int) api.Rule {
	return api.Rule{Freq: freq, Every: every, Until: -1}
}

// times gives the rule with this Count.
func times(r api.Rule, count int) api.Rule {
	r.Count = count
	return r
}

// until gives the rule with this Until.
func until(r api.Rule, m int) api.Rule {
	r.Until = m
	return r
}

// on gives the rule with these weekdays.
func on(r api.Rule, l ...api.Weekday) api.Rule {
	r.ByDay = l
	return r
}

// at gives the rule with these days of the month.
func at(r api.Rule, l ...int) api.Rule {
	r.ByMonthDay = l
	return r
}

// in gives the rule with these months.
func in(r api.Rule, l ...int) api.Rule {
	r.ByMonth = l
	return r
}

// nth gives a weekday with its N.
func nth(n, day int) api.Weekday {
	return api.Weekday{N: n, Day: day}
}

// freqs are the four frequencies.
func freqs() []int {
	return []int{api.Daily, api.Weekly, api.Monthly, api.Yearly}
}

// far are arguments beyond everything that the chapter names.
func far() []int {
	return []int{
		math.MinInt, math.MinInt + 1, math.MinInt32, -api.MaxMinute, math.MaxInt32,
		math.MaxInt/api.Day + 1, math.MaxInt - api.MaxLong, math.MaxInt - 1, math.MaxInt,
	}
}

// noRules are rules that are none, each for one reason.
func noRules() []api.Rule {
	r := each(api.Monthly, 1)
	return []api.Rule{
		{},
		{Every: 1, Until: -1},
		{Count: 1, Until: -1},
		{Until: 0},
		{Until: -1, ByMonth: []int{1}},
		each(-1, 1),
		each(5, 1),
		each(api.Daily, 0),
		each(api.Weekly, -1),
		each(api.Monthly, 101),
		each(api.Yearly, math.MaxInt),
		times(r, -1),
		times(r, api.MaxOcc+1),
		until(r, -2),
		until(r, api.MaxMinute),
		times(until(r, 0), 1),
		on(r, nth(6, 0)),
		on(r, nth(0, 7)),
		on(r, nth(0, 1), nth(0, 0)),
		on(each(api.Daily, 1), nth(1, 0)),
		at(r, 0),
		at(r, 1, 1),
		at(each(api.Weekly, 1), 1),
		at(each(api.Yearly, 1), 1),
		in(r, 13),
		at(r, 1, 2, 3, 4, 5, 6, 7, 8, 9, 10, 11, 12, 13),
	}
}

// noDays are rules that have no day at all.
func noDays() []api.Rule {
	february := func(freq int) api.Rule { return in(at(each(freq, 1), -31, -30, 30, 31), 2) }
	return []api.Rule{
		february(api.Daily),
		february(api.Monthly),
		february(api.Yearly),
		in(at(each(api.Yearly, 1), 31), 2, 4, 6, 9, 11),
		// The 13th is the second of its weekday, and one of the last three.
		on(at(each(api.Monthly, 1), 13), nth(-1, 4), nth(1, 4), nth(5, 4)),
	}
}

// minute gives the minute at a time of a date.
func minute(t *testing.T, year, month, day, time int) int {
	t.Helper()
	m, err := civil.Minute(api.Date{Year: year, Month: month, Day: day}, time/60, time%60)
	if err != api.OK {
		t.Fatalf("%d-%d-%d: %v", year, month, day, err)
	}
	return m
}

// texts gives the minutes as texts.
func texts(l []int) []string {
	var out []string
	for _, m := range l {
		out = append(out, civil.Text(m))
	}
	return out
}

func expectStarts(t *testing.T, r api.Rule, start int, except []int, want ...int) {
	t.Helper()
	got, err := expand.Starts(r, start, except)
	if err != api.OK || !slices.Equal(got, want) {
		t.Errorf("Starts(%+v, %d, %v) = %v, %v, want %v", r, start, except, texts(got), err, texts(want))
	}
}

func expectError(t *testing.T, r api.Rule, start int, except []int, want api.Errno) {
	t.Helper()
	if got, err := expand.Starts(r, start, except); err != want || len(got) != 0 {
		t.Errorf("Starts(%+v, %d, %v) = %v, %v, want %v", r, start, except, texts(got), err, want)
	}
}

// inSteps gives n minutes, all as far from the one before.
func inSteps(first, step, n int) []int {
	var out []int
	for i := range n {
		out = append(out, first+i*step)
	}
	return out
}
