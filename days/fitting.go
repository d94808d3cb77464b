package days

import (
	"hostelry/api"
	"hostelry/civil"
	"hostelry/rule"
)

// none stands for what is left open: no weekday, day of a month or month is it.
const none = -1

// likeness is what a day must have in common with start; none: nothing.
type likeness struct{ weekday, day, month int }

// asked gives what a rule takes from start, where its lists don't say it.
func asked(r api.Rule, start int) likeness {
	out := likeness{none, none, none}
	if len(r.ByDay) > 0 {
		return out
	}
	if r.Freq == api.Weekly {
		out.weekday = civil.Weekday(start)
	}
	if len(r.ByMonthDay) > 0 {
		return out
	}
	date, _ := civil.Date(start)
	if r.Freq == api.Monthly || r.Freq == api.Yearly {
		out.day = date.Day
	}
	if r.Freq == api.Yearly && len(r.ByMonth) == 0 {
		out.month = date.Month
	}
	return out
}

// has reports whether a day has in common with start what it must.
func (l likeness) has(day int) bool {
	date, _ := civil.Date(day)
	return (l.weekday == none || l.weekday == civil.Weekday(day)) &&
		(l.day == none || l.day == date.Day) &&
		(l.month == none || l.month == date.Month)
}

// fitting gives those of the days that are as asked for, and fit the rule.
func fitting(r api.Rule, l likeness, days ...int) []int {
	var out []int
	for _, day := range days {
		if l.has(day) && rule.Fits(r, day) {
			out = append(out, day)
		}
	}
	return out
}

// allFrom gives the days from first up to end - 1.
func allFrom(first, end int) []int {
	out := make([]int, 0, end-first)
	for day := first; day < end; day++ {
		out = append(out, day)
	}
	return out
}
