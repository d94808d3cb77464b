package rule

import (
	"cmp"
	"slices"

	"hostelry/api"
)

const (
	lastWeekday = 6
	maxPosition = 5 // a month has at most five of a weekday
	maxMonthDay = 31
	lastMonth   = 12
)

// lists are those of a rule. One that is empty asks nothing of a day.
type lists struct {
	byDay      []api.Weekday
	byMonthDay []int
	byMonth    []int
}

func (l lists) equal(other lists) bool {
	return slices.Equal(l.byDay, other.byDay) &&
		slices.Equal(l.byMonthDay, other.byMonthDay) &&
		slices.Equal(l.byMonth, other.byMonth)
}

// wellFormed reports whether there is a frequency that allows these lists.
func (l lists) wellFormed() bool {
	return isList(isWeekday, compareWeekdays, l.byDay...) &&
		isList(isMonthDay, cmp.Compare[int], l.byMonthDay...) &&
		isList(isMonth, cmp.Compare[int], l.byMonth...)
}

// hasPosition reports whether one of the weekdays has an N, and so is not every one of its month.
func (l lists) hasPosition() bool {
	return slices.ContainsFunc(l.byDay, func(w api.Weekday) bool { return w.N != 0 })
}

// admit reports whether a day at this place satisfies the lists.
func (l lists) admit(p place) bool {
	return isEmptyOrHas(p.inMonth, l.byMonth...) &&
		isEmptyOrHas(p.onMonthDay, l.byMonthDay...) &&
		isEmptyOrHas(p.onWeekday, l.byDay...)
}

// isList reports whether these elements may be a list of a rule: few enough,
// each of them possible, and ascending, so that no two are alike.
func isList[E any](possible func(e E) bool, compare func(a, b E) int, elements ...E) bool {
	if len(elements) > api.MaxList {
		return false
	}
	for i, e := range elements {
		if !possible(e) || i > 0 && compare(elements[i-1], e) >= 0 {
			return false
		}
	}
	return true
}

// isEmptyOrHas reports whether one of the elements is such a one, or there are none.
func isEmptyOrHas[E any](such func(e E) bool, elements ...E) bool {
	return len(elements) == 0 || slices.ContainsFunc(elements, such)
}

func isWeekday(w api.Weekday) bool {
	return between(-maxPosition, w.N, maxPosition) && between(0, w.Day, lastWeekday)
}

func isMonthDay(n int) bool {
	return n != 0 && between(-maxMonthDay, n, maxMonthDay)
}

func isMonth(n int) bool {
	return between(1, n, lastMonth)
}

func compareWeekdays(a, b api.Weekday) int {
	if a.N != b.N {
		return cmp.Compare(a.N, b.N)
	}
	return cmp.Compare(a.Day, b.Day)
}
