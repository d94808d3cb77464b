package expand_test

import (
	"slices"
	"testing"

	"hostelry/api"
	"hostelry/expand"
	"hostelry/rule"
)

// P6.1

func TestOnce(t *testing.T) {
	for _, start := range []int{0, 1, 630, api.Day, 12345678, lastMinute - 1, lastMinute} {
		expectStarts(t, rule.Once(), start, nil, start)
		expectStarts(t, rule.Once(), start, []int{start - 1, start + 1, start + api.Day}, start)
		expectError(t, rule.Once(), start, []int{start}, api.ErrEmpty)
		expectError(t, rule.Once(), start, []int{start + 1, start, start}, api.ErrEmpty)
	}
}

func TestADailyRuleWithCountThree(t *testing.T) {
	expectStarts(t, times(each(api.Daily, 1), 3), 630, nil, 630, 630+api.Day, 630+2*api.Day)
}

func TestDaily(t *testing.T) {
	start := minute(t, 2024, 2, 27, 1439) // a Tuesday
	for _, every := range []int{1, 2, 30, 99, 100} {
		expectStarts(t, times(each(api.Daily, every), 5), start, nil, inSteps(start, every*api.Day, 5)...)
	}
	r := times(on(each(api.Daily, 1), nth(0, 3), nth(0, 5)), 3)
	expectStarts(t, r, start, nil, start+2*api.Day, start+4*api.Day, start+9*api.Day)
	r.Every = 2
	expectStarts(t, r, start, nil, start+2*api.Day, start+4*api.Day, start+16*api.Day)
	expectStarts(t, times(at(each(api.Daily, 1), -1, 1), 4), start, nil,
		minute(t, 2024, 2, 29, 1439), minute(t, 2024, 3, 1, 1439), minute(t, 2024, 3, 31, 1439), minute(t, 2024, 4, 1, 1439))
}

func TestWeekly(t *testing.T) {
	start := minute(t, 2024, 5, 16, 61) // a Thursday
	for _, every := range []int{1, 2, 52, 99, 100} {
		expectStarts(t, times(each(api.Weekly, every), 4), start, nil, inSteps(start, 7*every*api.Day, 4)...)
	}
	r := times(on(each(api.Weekly, 2), nth(0, 0), nth(0, 3), nth(0, 6)), 5)
	expectStarts(t, r, start, nil, start, start+3*api.Day, start+11*api.Day, start+14*api.Day, start+17*api.Day)
	r = times(on(each(api.Weekly, 100), nth(0, 2), nth(0, 4)), 3)
	expectStarts(t, r, start, nil, start+api.Day, start+699*api.Day, start+701*api.Day)
}

func TestMonthly(t *testing.T) {
	start := minute(t, 2023, 12, 31, 720)
	noon := func(year, month, day int) int { return minute(t, year, month, day, 720) }
	expectStarts(t, times(each(api.Monthly, 1), 4), start, nil, start, noon(2024, 1, 31), noon(2024, 3, 31), noon(2024, 5, 31))
	expectStarts(t, times(each(api.Monthly, 7), 3), start, nil, start, noon(2024, 7, 31), noon(2028, 1, 31))
	expectStarts(t, times(each(api.Monthly, 99), 3), start, nil, start, noon(2032, 3, 31), noon(2056, 12, 31))
	expectStarts(t, times(each(api.Monthly, 100), 3), start, nil, start, noon(2040, 8, 31), noon(2048, 12, 31))
	expectStarts(t, times(at(each(api.Monthly, 1), -1), 3), start, nil, start, noon(2024, 1, 31), noon(2024, 2, 29))
	r := times(on(each(api.Monthly, 2), nth(-1, 4), nth(1, 2)), 3)
	expectStarts(t, r, start, nil, noon(2024, 2, 7), noon(2024, 2, 23), noon(2024, 4, 3))
}

func TestYearly(t *testing.T) {
	start := minute(t, 2024, 2, 29, 1)
	then := func(year, month, day int) int { return minute(t, year, month, day, 1) }
	expectStarts(t, times(each(api.Yearly, 1), 3), start, nil, start, then(2028, 2, 29), then(2032, 2, 29))
	expectStarts(t, times(each(api.Yearly, 6), 3), start, nil, start, then(2036, 2, 29), then(2048, 2, 29))
	expectStarts(t, each(api.Yearly, 75), start, nil, start)
	expectStarts(t, each(api.Yearly, 100), start, nil, start)
	expectStarts(t, times(in(each(api.Yearly, 1), 1, 3), 3), start, nil, then(2024, 3, 29), then(2025, 1, 29), then(2025, 3, 29))
	r := times(on(in(each(api.Yearly, 25), 11), nth(4, 3)), 2)
	expectStarts(t, r, start, nil, then(2024, 11, 28), then(2049, 11, 25))
}

func TestTheTimeOfDayIsThatOfStart(t *testing.T) {
	for _, time := range []int{0, 1, 719, 1438, 1439} {
		for _, freq := range freqs() {
			for _, every := range []int{1, 2, 7} {
				l, err := expand.Starts(times(each(freq, every), 12), 8000*api.Day+time, nil)
				if err != api.OK || len(l) != 12 {
					t.Errorf("%d, each %d: %v, %v", freq, every, l, err)
				}
				for _, m := range l {
					if m%api.Day != time {
						t.Errorf("%d, each %d: %d is not at %d", freq, every, m, time)
					}
				}
			}
		}
	}
}

func TestDaysBeforeStartAreNone(t *testing.T) {
	// They are days of the first period, and yet no occurrence; they don't count either.
	start := minute(t, 2024, 5, 16, 600) // a Thursday
	week := times(on(each(api.Weekly, 1), nth(0, 0), nth(0, 2), nth(0, 3), nth(0, 5)), 3)
	expectStarts(t, week, start, nil, start, start+2*api.Day, start+4*api.Day)
	month := times(at(each(api.Monthly, 1), 1, 15, 16, 31), 3)
	expectStarts(t, month, start, nil, start, start+15*api.Day, minute(t, 2024, 6, 1, 600))
	year := times(in(each(api.Yearly, 1), 1, 4, 5, 12), 3)
	expectStarts(t, year, start, nil, start, minute(t, 2024, 12, 16, 600), minute(t, 2025, 1, 16, 600))
	// With a first period that lies before start as a whole, and without another one.
	expectError(t, in(each(api.Yearly, 100), 1, 4), start, nil, api.ErrEmpty)
}

func TestAStartThatItsRuleLeavesOut(t *testing.T) {
	start := minute(t, 2024, 5, 16, 600) // a Thursday
	expectStarts(t, times(on(each(api.Weekly, 1), nth(0, 1)), 2), start, nil, start+5*api.Day, start+12*api.Day)
	expectStarts(t, times(on(each(api.Weekly, 1), nth(0, 4)), 2), start, nil, start+api.Day, start+8*api.Day)
	expectStarts(t, times(at(each(api.Monthly, 1), 15), 1), start, nil, start+30*api.Day)
	expectStarts(t, times(in(each(api.Daily, 1), 6), 1), start, nil, minute(t, 2024, 6, 1, 600))
	expectStarts(t, times(in(each(api.Yearly, 1), 4), 1), start, nil, minute(t, 2025, 4, 16, 600))
}

func TestCount(t *testing.T) {
	start := 600
	for _, freq := range []int{api.Daily, api.Weekly} {
		step := api.Day
		if freq == api.Weekly {
			step = 7 * api.Day
		}
		for count := 1; count <= api.MaxOcc; count++ {
			expectStarts(t, times(each(freq, 1), count), start, nil, inSteps(start, step, count)...)
		}
		expectError(t, times(each(freq, 1), 0), start, nil, api.ErrMany)
	}
	// There are ten days left: Count is met, or never comes to be.
	start = lastMinute - 9*api.Day
	for count := 1; count <= api.MaxOcc; count++ {
		expectStarts(t, times(each(api.Daily, 1), count), start, nil, inSteps(start, api.Day, min(count, 10))...)
	}
	expectStarts(t, times(each(api.Daily, 1), 0), start, nil, inSteps(start, api.Day, 10)...)
	// One period has more than enough.
	all := times(on(in(each(api.Yearly, 1), 1, 2), nth(0, 0), nth(0, 1), nth(0, 2), nth(0, 3), nth(0, 4), nth(0, 5), nth(0, 6)), api.MaxOcc)
	expectStarts(t, all, 0, nil, inSteps(0, api.Day, api.MaxOcc)...)
	expectStarts(t, times(all, api.MaxOcc-1), 0, nil, inSteps(0, api.Day, api.MaxOcc-1)...)
	expectError(t, times(all, 0), 0, nil, api.ErrMany)
}

func TestUntil(t *testing.T) {
	start := minute(t, 2024, 5, 16, 600)
	for _, freq := range freqs() {
		for _, every := range []int{1, 3} {
			l, err := expand.Starts(times(each(freq, every), 6), start, nil)
			if err != api.OK || len(l) != 6 {
				t.Fatalf("%d, each %d: %v, %v", freq, every, l, err)
			}
			for n := range l {
				r := each(freq, every)
				expectStarts(t, until(r, l[n]), start, nil, l[:n+1]...)
				expectStarts(t, until(r, l[n]+1), start, nil, l[:n+1]...)
				if n > 0 {
					expectStarts(t, until(r, l[n]-1), start, nil, l[:n]...)
				}
			}
			for _, m := range []int{0, start - 2*api.Day, start - 1} {
				expectError(t, until(each(freq, every), m), start, nil, api.ErrEmpty)
			}
		}
	}
	// The days of the first period that are before Until, but before start too.
	r := on(each(api.Weekly, 1), nth(0, 0), nth(0, 6))
	expectError(t, until(r, start+api.Day), start, nil, api.ErrEmpty)
	expectStarts(t, until(r, start+3*api.Day), start, nil, start+3*api.Day)
	// Until at the last minute of all, and one before it.
	r, start = each(api.Daily, 1), lastMinute-api.Day
	expectStarts(t, until(r, lastMinute), start, nil, start, lastMinute)
	expectStarts(t, until(r, lastMinute-1), start, nil, start)
	expectStarts(t, r, start, nil, start, lastMinute)
}

func TestUntilCutsADay(t *testing.T) {
	// The day of Until is no occurrence if its time is behind Until.
	start := minute(t, 2024, 5, 16, 600)
	for time := range api.Day {
		want := inSteps(start, api.Day, 3)
		if time < 600 {
			want = want[:2]
		}
		expectStarts(t, until(each(api.Daily, 1), minute(t, 2024, 5, 18, time)), start, nil, want...)
	}
}

func TestHowMany(t *testing.T) {
	// As many as there may be, and one more: by Until, and by the end of all days.
	for _, freq := range []int{api.Daily, api.Weekly} {
		for _, every := range []int{1, 2, 100} {
			step := every * api.Day
			if freq == api.Weekly {
				step *= 7
			}
			r := each(freq, every)
			for _, start := range []int{0, 600, 1439} {
				last := start + (api.MaxOcc-1)*step
				expectStarts(t, until(r, last), start, nil, inSteps(start, step, api.MaxOcc)...)
				expectStarts(t, until(r, last+step-1), start, nil, inSteps(start, step, api.MaxOcc)...)
				expectError(t, until(r, last+step), start, nil, api.ErrMany)
			}
			start := lastMinute - (api.MaxOcc-1)*step
			expectStarts(t, r, start, nil, inSteps(start, step, api.MaxOcc)...)
			expectError(t, r, start-step, nil, api.ErrMany)
		}
	}
	r := each(api.Yearly, 1)
	if l, err := expand.Starts(r, minute(t, 2060, 5, 16, 600), nil); err != api.OK || len(l) != api.MaxOcc || l[39] != minute(t, 2099, 5, 16, 600) {
		t.Errorf("each year from 2060 on: %v, %v", texts(l), err)
	}
	expectError(t, r, minute(t, 2059, 5, 16, 600), nil, api.ErrMany)
	r = each(api.Monthly, 1)
	if l, err := expand.Starts(r, minute(t, 2096, 9, 1, 0), nil); err != api.OK || len(l) != api.MaxOcc || l[39] != minute(t, 2099, 12, 1, 0) {
		t.Errorf("each month of the last forty: %v, %v", texts(l), err)
	}
	expectError(t, r, minute(t, 2096, 8, 1, 0), nil, api.ErrMany)
}

func TestManyIsBeforeTheRemoval(t *testing.T) {
	start, r := 600, each(api.Daily, 1)
	all := inSteps(start, api.Day, api.MaxOcc+1)
	enough, tooMany := until(r, all[39]), until(r, all[40])
	expectStarts(t, enough, start, all[:1], all[1:40]...)
	expectStarts(t, enough, start, all[40:], all[:40]...)
	expectError(t, enough, start, all[:40], api.ErrEmpty)
	for n := range len(all) + 1 {
		expectError(t, tooMany, start, all[:n], api.ErrMany)
		expectError(t, r, start, all[:n], api.ErrMany)
	}
	// What is removed has been counted.
	expectStarts(t, times(r, api.MaxOcc), start, all[:39], all[39])
	expectError(t, times(r, api.MaxOcc), start, all[:40], api.ErrEmpty)
	expectStarts(t, times(r, 3), start, all[1:2], all[0], all[2])
}

func TestMinutesUpToTheLastDay(t *testing.T) {
	for _, time := range []int{0, 1, 600, 1439} {
		last := api.MaxMinute - api.Day + time
		for _, freq := range freqs() {
			for _, every := range []int{1, 50, 100} {
				expectStarts(t, each(freq, every), last, nil, last)
				expectStarts(t, times(each(freq, every), api.MaxOcc), last, nil, last)
				expectStarts(t, until(each(freq, every), lastMinute), last, nil, last)
			}
		}
		expectStarts(t, each(api.Daily, 1), last-2*api.Day, nil, inSteps(last-2*api.Day, api.Day, 3)...)
		expectStarts(t, each(api.Daily, 2), last-2*api.Day, nil, last-2*api.Day, last)
		expectStarts(t, each(api.Daily, 3), last-2*api.Day, nil, last-2*api.Day)
		expectStarts(t, each(api.Daily, 100), last-100*api.Day, nil, last-100*api.Day, last)
		expectStarts(t, each(api.Weekly, 1), last-14*api.Day, nil, inSteps(last-14*api.Day, 7*api.Day, 3)...)
		// The last week goes on to a Sunday that does not exist.
		expectStarts(t, on(each(api.Weekly, 1), nth(0, 3), nth(0, 4), nth(0, 6)), last-7*api.Day, nil, last-7*api.Day, last-6*api.Day, last-4*api.Day, last)
		expectStarts(t, at(each(api.Monthly, 1), -1), minute(t, 2099, 10, 5, time), nil, minute(t, 2099, 10, 31, time), minute(t, 2099, 11, 30, time), last)
		expectStarts(t, each(api.Monthly, 1), minute(t, 2099, 10, 31, time), nil, minute(t, 2099, 10, 31, time), last)
		expectStarts(t, in(on(each(api.Yearly, 1), nth(-1, 3)), 12), minute(t, 2098, 6, 1, time), nil, minute(t, 2098, 12, 25, time), last)
	}
}

func TestRulesWithoutDays(t *testing.T) {
	for _, r := range noDays() {
		for _, every := range []int{1, 2, 100} {
			r.Every = every
			for _, start := range []int{0, 1439, api.MaxMinute / 2, lastMinute} {
				for _, end := range []api.Rule{r, times(r, 1), times(r, api.MaxOcc), until(r, 0), until(r, lastMinute)} {
					expectError(t, end, start, nil, api.ErrEmpty)
					expectError(t, end, start, []int{start}, api.ErrEmpty)
				}
			}
		}
	}
	// There would be days, but before start or after the last day alone.
	for _, freq := range freqs() {
		for _, every := range []int{1, 100} {
			r := in(each(freq, every), 1, 2, 3)
			expectError(t, r, minute(t, 2099, 4, 1, 0), nil, api.ErrEmpty)
			expectError(t, r, lastMinute, nil, api.ErrEmpty)
		}
	}
}

func TestADayThatComesLate(t *testing.T) {
	// Each search goes past many periods that have no day.
	start := minute(t, 2000, 3, 1, 5)
	expectStarts(t, times(in(at(each(api.Daily, 1), 29), 2), 2), start, nil, minute(t, 2004, 2, 29, 5), minute(t, 2008, 2, 29, 5))
	expectStarts(t, times(in(at(each(api.Yearly, 3), 29), 2), 2), start, nil, minute(t, 2012, 2, 29, 5), minute(t, 2024, 2, 29, 5))
	// A 29th of February is a Saturday each 28 years.
	r := in(on(at(each(api.Monthly, 1), 29), nth(0, 5)), 2)
	expectStarts(t, r, start, nil, minute(t, 2020, 2, 29, 5), minute(t, 2048, 2, 29, 5), minute(t, 2076, 2, 29, 5))
	expectStarts(t, until(r, minute(t, 2048, 2, 29, 4)), start, nil, minute(t, 2020, 2, 29, 5))
	// From the first of all days up to the last one.
	var want []int
	for _, year := range []int{2009, 2015, 2020, 2026, 2037, 2043, 2048, 2054, 2065, 2071, 2076, 2082, 2093, 2099} {
		want = append(want, minute(t, year, 12, 31, 5))
	}
	expectStarts(t, in(on(at(each(api.Daily, 1), 31), nth(0, 3)), 12), 5, nil, want...)
	// By hundreds of days, those that are the last of a year.
	late := in(at(each(api.Daily, 100), 31), 12)
	l, err := expand.Starts(late, start, nil)
	if err != api.OK || len(l) == 0 || slices.ContainsFunc(l, func(m int) bool { return (m-start)%(100*api.Day) != 0 }) {
		t.Errorf("the last days of years, by hundreds of days: %v, %v", texts(l), err)
	}
}

func TestExcept(t *testing.T) {
	start := minute(t, 2024, 5, 16, 600)
	r := times(each(api.Daily, 1), 5)
	l := inSteps(start, api.Day, 5)
	for _, c := range []struct{ except, want []int }{
		{nil, l},
		{[]int{}, l},
		{[]int{start - api.Day, start - 1, start + 1, start + 5*api.Day}, l},
		{[]int{-1, api.MaxMinute}, l},
		{far(), l},
		{l[:1], l[1:]},
		{l[4:], l[:4]},
		{[]int{l[2], l[2]}, []int{l[0], l[1], l[3], l[4]}},
		{[]int{l[3], l[1], l[3], l[1]}, []int{l[0], l[2], l[4]}},
		{[]int{l[4], l[0], l[2], l[1]}, l[3:4]},
		{append(far(), l[1:]...), l[:1]},
	} {
		expectStarts(t, r, start, c.except, c.want...)
	}
	expectError(t, r, start, l, api.ErrEmpty)
	expectError(t, r, start, []int{l[4], l[3], l[0], l[3], l[2], 7, l[1]}, api.ErrEmpty)
	expectError(t, r, start, inSteps(start, 1, 5*api.Day), api.ErrEmpty)
	expectStarts(t, r, start, inSteps(start+1, 1, 5*api.Day), start)
}

func TestStartsThatThereAreNot(t *testing.T) {
	rules := []api.Rule{rule.Once(), noDays()[0]}
	for _, freq := range freqs() {
		rules = append(rules, each(freq, 1), times(each(freq, 100), 1), until(each(freq, 2), 0))
	}
	for _, r := range rules {
		for _, start := range append(far(), -api.Day, -2, -1, api.MaxMinute, api.MaxMinute+1) {
			expectError(t, r, start, nil, api.ErrRange)
			expectError(t, r, start, []int{start}, api.ErrRange)
		}
	}
	for _, start := range []int{0, lastMinute} {
		for _, freq := range freqs() {
			expectStarts(t, times(each(freq, 1), 1), start, nil, start)
		}
	}
}

func TestWhatIsNoRule(t *testing.T) {
	for _, r := range noRules() {
		for _, start := range append(far(), -1, 0, 600, lastMinute, api.MaxMinute) {
			expectError(t, r, start, nil, api.ErrRule)
			expectError(t, r, start, []int{start}, api.ErrRule)
		}
	}
}
