package rtext_test

import (
	"math"
	"strconv"
	"strings"
	"testing"

	"hostelry/api"
	"hostelry/rtext"
	"hostelry/rule"
)

const lastMinute = api.MaxMinute - 1

// each gives the rule of this frequency that has no lists and no end.
func each(freq int) api.Rule {
	return api.Rule{Freq: freq, Every: 1, Until: -1}
}

// every gives the rule with this Every.
func every(r api.Rule, n int) api.Rule {
	r.Every = n
	return r
}

// times gives the rule with this Count.
func times(r api.Rule, count int) api.Rule {
	r.Count = count
	return r
}

// until gives the rule with this Until.
func until(r api.Rule, m int) api.Rule {
	r.Until = m
	return r
}

// on gives the rule with these weekdays.
func on(r api.Rule, l ...api.Weekday) api.Rule {
	r.ByDay = l
	return r
}

// at gives the rule with these days of the month.
func at(r api.Rule, l ...int) api.Rule {
	r.ByMonthDay = l
	return r
}

// in gives the rule with these months.
func in(r api.Rule, l ...int) api.Rule {
	r.ByMonth = l
	return r
}

// nth gives a weekday with its N.
func nth(n, day int) api.Weekday {
	return api.Weekday{N: n, Day: day}
}

// freqs are the four frequencies.
func freqs() []int {
	return []int{api.Daily, api.Weekly, api.Monthly, api.Yearly}
}

// far are arguments beyond everything that the chapter names.
func far() []int {
	return []int{
		math.MinInt, math.MinInt + 1, math.MinInt32, -api.MaxMinute,
		math.MaxInt32, math.MaxInt - 1, math.MaxInt,
	}
}

// full is a rule that has as much as one may have.
func full() api.Rule {
	r := on(each(api.Yearly),
		nth(-5, 0), nth(-5, 6), nth(-2, 3), nth(-1, 4), nth(0, 0), nth(0, 1),
		nth(0, 6), nth(1, 0), nth(2, 2), nth(4, 5), nth(5, 0), nth(5, 6))
	r = at(r, -31, -30, -10, -9, -2, -1, 1, 2, 9, 10, 30, 31)
	return every(until(in(r, 1, 2, 3, 4, 5, 6, 7, 8, 9, 10, 11, 12), lastMinute), 100)
}

const fullText = "FREQ=YEARLY;INTERVAL=100;UNTIL=20991231T235900;BYMONTH=1,2,3,4,5,6,7,8,9,10,11,12;" +
	"BYMONTHDAY=-31,-30,-10,-9,-2,-1,1,2,9,10,30,31;BYDAY=-5MO,-5SU,-2TH,-1FR,MO,TU,SU,1MO,2WE,4SA,5MO,5SU"

// numbered gives the numbers from first to last as the elements of a list.
func numbered(first, last int) string {
	var texts []string
	for n := first; n <= last; n++ {
		texts = append(texts, strconv.Itoa(n))
	}
	return strings.Join(texts, ",")
}

func expectPrint(t *testing.T, r api.Rule, want string) {
	t.Helper()
	if got := rtext.Print(r); got != want {
		t.Errorf("Print(%+v) = %q, want %q", r, got, want)
	}
}

func expectRule(t *testing.T, s string, want api.Rule) {
	t.Helper()
	if got, err := rtext.Parse(s); err != api.OK || !rule.Same(got, want) {
		t.Errorf("Parse(%q) = %+v, %v, want %+v", s, got, err, want)
	}
}

func expectNone(t *testing.T, s string) {
	t.Helper()
	if got, err := rtext.Parse(s); err != api.ErrRule || !isZero(got) {
		t.Errorf("Parse(%q) = %+v, %v, want nothing and %v", s, got, err, api.ErrRule)
	}
}

// isZero reports whether the rule is the one without a value in any field.
func isZero(r api.Rule) bool {
	return rule.Same(r, api.Rule{})
}
