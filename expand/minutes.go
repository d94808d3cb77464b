package expand

import (
	"slices"

	"hostelry/api"
	"hostelry/days"
	"hostelry/rule"
	"hostelry/span"
)

// occurring gives the minutes at which a rule occurs, in ascending order, but at
// most one more than MaxOcc: more are not needed to tell that they are too many.
func occurring(r api.Rule, start int) []int {
	if rule.Same(r, rule.Once()) {
		return []int{start}
	}
	day, time := start/api.Day, start%api.Day
	most, last := mostOf(r), lastOf(r)
	var out []int
	for k := 0; len(out) < most; k++ {
		first, _, ok := days.Period(r, day, k)
		// A period behind the last minute, and each one after it, has nothing to give.
		if !ok || first*api.Day > last {
			break
		}
		minutes := minutesAt(time, days.Of(r, day, k)...)
		out = append(out, between(start, last, minutes...)...)
	}
	return out[:min(most, len(out))]
}

// mostOf gives how many minutes of a rule are looked for.
func mostOf(r api.Rule) int {
	if r.Count > 0 {
		return r.Count
	}
	return api.MaxOcc + 1
}

// lastOf gives the last minute at which a rule can occur.
func lastOf(r api.Rule) int {
	if r.Until >= 0 {
		return r.Until
	}
	return api.MaxMinute - 1
}

// minutesAt gives the minute at this time of each of the days.
func minutesAt(time int, onDays ...int) []int {
	out := make([]int, 0, len(onDays))
	for _, day := range onDays {
		out = append(out, day*api.Day+time)
	}
	return out
}

// between gives those of the minutes that are not before first nor behind last.
func between(first, last int, minutes ...int) []int {
	var out []int
	for _, m := range minutes {
		if first <= m && m <= last {
			out = append(out, m)
		}
	}
	return out
}

// without gives those of the minutes that are not in except.
func without(except []int, minutes ...int) []int {
	var out []int
	for _, m := range minutes {
		if !slices.Contains(except, m) {
			out = append(out, m)
		}
	}
	return out
}

// spansFrom gives the span of this length from each minute on, if all of them end in time.
func spansFrom(long int, minutes ...int) ([]api.Span, api.Errno) {
	out := make([]api.Span, 0, len(minutes))
	for _, m := range minutes {
		s := api.Span{From: m, To: m + long}
		if !span.Is(s) {
			return nil, api.ErrRange
		}
		out = append(out, s)
	}
	return out, api.OK
}
