package days_test

import (
	"math/rand"
	"slices"
	"testing"

	"hostelry/api"
	"hostelry/days"
	"hostelry/rule"
)

// on gives the rule with these weekdays.
func on(r api.Rule, l ...api.Weekday) api.Rule {
	r.ByDay = l
	return r
}

// at gives the rule with these days of the month.
func at(r api.Rule, l ...int) api.Rule {
	r.ByMonthDay = l
	return r
}

// in gives the rule with these months.
func in(r api.Rule, l ...int) api.Rule {
	r.ByMonth = l
	return r
}

// nth gives a weekday with its N.
func nth(n, day int) api.Weekday {
	return api.Weekday{N: n, Day: day}
}

// expectDates expects the days of the k-th period as year, month, day; start alike.
func expectDates(t *testing.T, r api.Rule, start [3]int, k int, want ...[3]int) {
	t.Helper()
	var l []int
	for _, d := range want {
		l = append(l, number(t, d[0], d[1], d[2]))
	}
	from := number(t, start[0], start[1], start[2])
	if got := days.Of(r, from, k); !slices.Equal(got, l) {
		t.Errorf("Of(%+v, %v, %d) = %v, want %v: %v", r, start, k, got, l, want)
	}
}

// dates gives days of one month.
func dates(year, month int, l ...int) [][3]int {
	var out [][3]int
	for _, d := range l {
		out = append(out, [3]int{year, month, d})
	}
	return out
}

// P5.2

func TestDailyDays(t *testing.T) {
	r := each(api.Daily, 1)
	expectDates(t, r, [3]int{2024, 2, 28}, 0, [3]int{2024, 2, 28})
	expectDates(t, r, [3]int{2024, 2, 28}, 1, [3]int{2024, 2, 29})
	expectDates(t, r, [3]int{2024, 2, 28}, 2, [3]int{2024, 3, 1})
	expectDates(t, each(api.Daily, 100), [3]int{2023, 12, 31}, 1, [3]int{2024, 4, 9})
	// The 7th of May 2024 is a Tuesday.
	for _, c := range []struct {
		r    api.Rule
		fits bool
	}{
		{on(r, nth(0, 1)), true},
		{on(r, nth(0, 0), nth(0, 2)), false},
		{at(r, 7), true},
		{at(r, -25), true},
		{at(r, -7, 6, 8), false},
		{in(r, 5), true},
		{in(r, 4, 6), false},
		{on(in(at(r, 7), 5), nth(0, 1)), true},
		{on(in(at(r, 7), 5), nth(0, 2)), false},
	} {
		var want [][3]int
		if c.fits {
			want = dates(2024, 5, 7)
		}
		expectDates(t, c.r, [3]int{2024, 5, 6}, 1, want...)
		expectDates(t, c.r, [3]int{2024, 5, 7}, 0, want...)
	}
}

func TestWeeklyDays(t *testing.T) {
	r := each(api.Weekly, 1)
	// The 29th of April 2024 is a Monday: without ByDay, the weekday is that of start.
	for d := range 7 {
		start := [3]int{2024, 4, 22 + d}
		expectDates(t, r, start, 0, start)
		if d < 2 {
			expectDates(t, r, start, 1, [3]int{2024, 4, 29 + d})
		} else {
			expectDates(t, r, start, 1, [3]int{2024, 5, d - 1})
		}
		expectDates(t, each(api.Weekly, 2), start, 1, [3]int{2024, 5, 6 + d})
		// With it, it is not.
		expectDates(t, on(r, nth(0, 1)), start, 0, [3]int{2024, 4, 23})
		expectDates(t, on(r, nth(0, 1)), start, 1, [3]int{2024, 4, 30})
		expectDates(t, on(r, nth(0, 0), nth(0, 3), nth(0, 6)), start, 2, dates(2024, 5, 6, 9, 12)...)
		expectDates(t, on(in(r, 4), nth(0, 1), nth(0, 2)), start, 1, [3]int{2024, 4, 30})
		expectDates(t, on(in(r, 6), nth(0, 1), nth(0, 2)), start, 1)
	}
	// ByMonth alone leaves the weekday to start.
	expectDates(t, in(r, 5), [3]int{2024, 4, 23}, 1)
	expectDates(t, in(r, 5), [3]int{2024, 4, 25}, 1, [3]int{2024, 5, 2})
	expectDates(t, in(r, 4), [3]int{2024, 4, 23}, 1, [3]int{2024, 4, 30})
	expectDates(t, in(r, 4), [3]int{2024, 4, 25}, 1)
}

func TestWeekdaysAtTheEnds(t *testing.T) {
	r := each(api.Weekly, 1)
	// Of the first week there are the Saturday and the Sunday, of the last one Monday to Thursday.
	for day := range 7 {
		var first, last [][3]int
		if day >= 5 {
			first = dates(2000, 1, day-4)
		}
		if day <= 3 {
			last = dates(2099, 12, 28+day)
		}
		expectDates(t, on(r, nth(0, day)), [3]int{2000, 1, 1}, 0, first...)
		expectDates(t, on(r, nth(0, day)), [3]int{2000, 1, 2}, 0, first...)
		expectDates(t, on(r, nth(0, day)), [3]int{2000, 1, 1}, 1, [3]int{2000, 1, 3 + day})
		expectDates(t, on(r, nth(0, day)), [3]int{2099, 12, 31}, 0, last...)
		expectDates(t, on(r, nth(0, day)), [3]int{2099, 12, 24}, 1, last...)
		expectDates(t, on(r, nth(0, day)), [3]int{2099, 12, 31}, 1)
	}
	expectDates(t, r, [3]int{2000, 1, 1}, 0, [3]int{2000, 1, 1})
	expectDates(t, r, [3]int{2000, 1, 2}, 0, [3]int{2000, 1, 2})
	expectDates(t, r, [3]int{2099, 12, 31}, 0, [3]int{2099, 12, 31})
	expectDates(t, r, [3]int{2099, 12, 25}, 1)
	expectDates(t, r, [3]int{2099, 12, 24}, 1, [3]int{2099, 12, 31})
}

func TestMonthlyDays(t *testing.T) {
	r := each(api.Monthly, 1)
	expectDates(t, r, [3]int{2024, 4, 15}, 0, [3]int{2024, 4, 15})
	expectDates(t, r, [3]int{2024, 4, 15}, 9, [3]int{2025, 1, 15})
	for _, c := range []struct {
		start [3]int
		k     int
		want  [][3]int
	}{
		{[3]int{2024, 1, 28}, 1, dates(2024, 2, 28)},
		{[3]int{2024, 1, 29}, 1, dates(2024, 2, 29)},
		{[3]int{2024, 1, 30}, 1, nil},
		{[3]int{2024, 1, 31}, 1, nil},
		{[3]int{2023, 1, 28}, 1, dates(2023, 2, 28)},
		{[3]int{2023, 1, 29}, 1, nil},
		{[3]int{2023, 1, 30}, 1, nil},
		{[3]int{2023, 1, 31}, 1, nil},
		{[3]int{2023, 1, 31}, 2, dates(2023, 3, 31)},
		{[3]int{2023, 1, 30}, 3, dates(2023, 4, 30)},
		{[3]int{2023, 1, 31}, 3, nil},
		{[3]int{2024, 2, 29}, 1, dates(2024, 3, 29)},
		{[3]int{2024, 2, 29}, 12, nil},
		{[3]int{2024, 2, 29}, 48, dates(2028, 2, 29)},
	} {
		expectDates(t, r, c.start, c.k, c.want...)
		// ByMonth alone leaves the day of the month to start.
		expectDates(t, in(r, 1, 2, 3, 4), c.start, c.k, c.want...)
		expectDates(t, in(r, 1, 5), c.start, c.k)
	}
	for _, start := range [][3]int{{2024, 5, 1}, {2024, 5, 15}, {2024, 5, 31}} {
		expectDates(t, on(r, nth(0, 4)), start, 0, dates(2024, 5, 3, 10, 17, 24, 31)...)
		expectDates(t, on(r, nth(-1, 4)), start, 0, dates(2024, 5, 31)...)
		expectDates(t, on(r, nth(-1, 4)), start, 1, dates(2024, 6, 28)...)
		expectDates(t, on(r, nth(5, 4)), start, 1)
		expectDates(t, on(r, nth(-1, 4), nth(0, 1), nth(1, 2)), start, 0, dates(2024, 5, 1, 7, 14, 21, 28, 31)...)
		expectDates(t, at(r, -1, 1, 30), start, 0, dates(2024, 5, 1, 30, 31)...)
		expectDates(t, at(r, -1, 1, 30), start, 1, dates(2024, 6, 1, 30)...)
		expectDates(t, at(r, -1, 1, 30), start, 9, dates(2025, 2, 1, 28)...)
		expectDates(t, at(r, -30, 31), start, 9)
		expectDates(t, on(at(r, 13), nth(0, 4)), start, 4, dates(2024, 9, 13)...)
		expectDates(t, on(at(r, 13), nth(0, 4)), start, 5)
		expectDates(t, in(at(r, 13), 9), start, 4, dates(2024, 9, 13)...)
		expectDates(t, in(at(r, 13), 9), start, 5)
	}
}

func TestYearlyDays(t *testing.T) {
	r := each(api.Yearly, 1)
	for _, start := range [][3]int{{2023, 1, 1}, {2023, 2, 28}, {2023, 6, 30}, {2023, 12, 31}} {
		for k := range 5 {
			expectDates(t, r, start, k, [3]int{2023 + k, start[1], start[2]})
		}
		// The lists say the month: the day of it stays that of start.
		expectDates(t, in(r, 1, 12), start, 1, [3]int{2024, 1, start[2]}, [3]int{2024, 12, start[2]})
	}
	leap := [3]int{2024, 2, 29}
	expectDates(t, r, leap, 0, leap)
	expectDates(t, r, leap, 1)
	expectDates(t, r, leap, 2)
	expectDates(t, r, leap, 3)
	expectDates(t, r, leap, 4, [3]int{2028, 2, 29})
	expectDates(t, each(api.Yearly, 4), leap, 1, [3]int{2028, 2, 29})
	expectDates(t, in(r, 2, 3), leap, 1, [3]int{2025, 3, 29})
	expectDates(t, in(r, 2, 3), leap, 4, [3]int{2028, 2, 29}, [3]int{2028, 3, 29})
	expectDates(t, in(r, 2, 4), [3]int{2024, 7, 31}, 0)
	expectDates(t, in(r, 2, 3, 4, 5), [3]int{2024, 7, 31}, 0, [3]int{2024, 3, 31}, [3]int{2024, 5, 31})
	expectDates(t, in(r, 2), [3]int{2024, 1, 30}, 0)
	expectDates(t, in(r, 7), [3]int{2024, 7, 31}, 3, [3]int{2027, 7, 31})
	for _, start := range [][3]int{{2024, 1, 1}, {2024, 2, 29}, {2024, 12, 31}} {
		expectDates(t, in(on(r, nth(-1, 4)), 5, 6), start, 0, [3]int{2024, 5, 31}, [3]int{2024, 6, 28})
		expectDates(t, in(on(r, nth(0, 2)), 5), start, 0, dates(2024, 5, 1, 8, 15, 22, 29)...)
		expectDates(t, in(at(r, -1, 1), 2, 4), start, 1, [3]int{2025, 2, 1}, [3]int{2025, 2, 28}, [3]int{2025, 4, 1}, [3]int{2025, 4, 30})
		expectDates(t, in(at(r, 30), 2), start, 0)
		expectDates(t, in(at(on(r, nth(0, 4)), 13), 5, 9), start, 0, [3]int{2024, 9, 13})
	}
}

func TestTheDaysBeforeStartCount(t *testing.T) {
	// The period is whole, though start is late in it.
	expectDates(t, on(each(api.Weekly, 1), nth(0, 0)), [3]int{2024, 5, 5}, 0, [3]int{2024, 4, 29})
	expectDates(t, at(each(api.Monthly, 1), 1), [3]int{2024, 5, 31}, 0, [3]int{2024, 5, 1})
	expectDates(t, in(each(api.Yearly, 1), 1), [3]int{2024, 5, 31}, 0, [3]int{2024, 1, 31})
}

func TestCountAndUntilChangeNothing(t *testing.T) {
	r := on(each(api.Weekly, 1), nth(0, 0), nth(0, 1))
	r.Count = 1
	expectDates(t, r, [3]int{2024, 5, 5}, 3, dates(2024, 5, 20, 21)...)
	r.Count, r.Until = 0, 0
	expectDates(t, r, [3]int{2024, 5, 5}, 3, dates(2024, 5, 20, 21)...)
}

func TestAWeeklyRuleOnTuesday(t *testing.T) {
	for _, every := range []int{1, 3} {
		r := on(each(api.Weekly, every), nth(0, 1))
		start := number(t, 2024, 5, 5)
		for k := 0; ; k++ {
			first, _, ok := days.Period(r, start, k)
			if !ok {
				break
			}
			if got := days.Of(r, start, k); len(got) != 1 || got[0] != first+1 {
				t.Fatalf("Of(%+v, %d, %d) = %v", r, start, k, got)
			}
		}
	}
}

// someRule gives a rule with all kinds of lists.
func someRule(r *rand.Rand) api.Rule {
	for {
		out := each(1+r.Intn(4), []int{1, 1, 2, 1 + r.Intn(100)}[r.Intn(4)])
		if r.Intn(2) == 0 {
			for range 1 + r.Intn(4) {
				out.ByMonth = append(out.ByMonth, 1+r.Intn(12))
			}
			slices.Sort(out.ByMonth)
			out.ByMonth = slices.Compact(out.ByMonth)
		}
		if r.Intn(3) == 0 {
			for range 1 + r.Intn(6) {
				out.ByMonthDay = append(out.ByMonthDay, r.Intn(63)-31)
			}
			slices.Sort(out.ByMonthDay)
			out.ByMonthDay = slices.Compact(out.ByMonthDay)
		}
		if r.Intn(3) == 0 {
			n := r.Intn(2) * (r.Intn(11) - 5)
			for day := r.Intn(3); day < 7; day += 1 + r.Intn(4) {
				out.ByDay = append(out.ByDay, nth(n, day))
			}
		}
		if rule.Is(out) {
			return out
		}
	}
}

// comesByWords tells by the words of the chapters whether the rule comes on the day.
func comesByWords(r api.Rule, start, d today) bool {
	month, monthDay, day := len(r.ByMonth) == 0, len(r.ByMonthDay) == 0, len(r.ByDay) == 0
	open := monthDay && day
	comes := true
	switch {
	case r.Freq == api.Weekly && day:
		comes = d.weekday == start.weekday
	case r.Freq == api.Monthly && open:
		comes = d.monthDay == start.monthDay
	case r.Freq == api.Yearly && open && month:
		comes = d.monthDay == start.monthDay && d.monthOfYear == start.monthOfYear
	case r.Freq == api.Yearly && open:
		comes = d.monthDay == start.monthDay
	}
	for _, m := range r.ByMonth {
		month = month || m == d.monthOfYear
	}
	for _, n := range r.ByMonthDay {
		monthDay = monthDay || n == d.monthDay || n == d.fromEnd
	}
	for _, w := range r.ByDay {
		n := w.N == 0 || w.N == d.nth || w.N == d.nthFromEnd
		day = day || n && w.Day == d.weekday
	}
	return comes && month && monthDay && day
}

func TestManyRules(t *testing.T) {
	all := allDays()
	rnd := rand.New(rand.NewSource(52))
	for n := range 250 {
		r := someRule(rnd)
		start := []int{rnd.Intn(api.MaxDay), rnd.Intn(60), api.MaxDay - 1 - rnd.Intn(500), number(t, 2024, 2, 29)}[n%4]
		want := periodsByWords(all, r, start)
		for k := range len(want) {
			var l []int
			for _, day := range want[k] {
				if comesByWords(r, all[start], all[day]) {
					l = append(l, day)
				}
			}
			if got := days.Of(r, start, k); !slices.Equal(got, l) {
				t.Fatalf("Of(%+v, %d, %d) = %v, want %v", r, start, k, got, l)
			}
		}
		expectNone(t, r, start, len(want))
	}
}

func TestADayComesInOnePeriodAlone(t *testing.T) {
	rnd := rand.New(rand.NewSource(53))
	for range 200 {
		r := someRule(rnd)
		start := rnd.Intn(api.MaxDay)
		last := -1
		for k := 0; ; k++ {
			first, end, ok := days.Period(r, start, k)
			if !ok {
				break
			}
			for _, day := range days.Of(r, start, k) {
				if day <= last || day < first || day >= end {
					t.Fatalf("Of(%+v, %d, %d) has day %d, after %d", r, start, k, day, last)
				}
				last = day
			}
		}
	}
}

// The rules of DOC.md.

func TestNoListAndAnEmptyOneAreAlike(t *testing.T) {
	for _, freq := range freqs() {
		r := each(freq, 1)
		empty := r
		empty.ByDay, empty.ByMonthDay, empty.ByMonth = []api.Weekday{}, []int{}, []int{}
		for k := range 4 {
			if a, b := days.Of(r, 59, k), days.Of(empty, 59, k); !slices.Equal(a, b) {
				t.Errorf("%+v, %d: %v and %v", r, k, a, b)
			}
			f, e, ok := days.Period(r, 59, k)
			if f2, e2, ok2 := days.Period(empty, 59, k); f != f2 || e != e2 || ok != ok2 {
				t.Errorf("%+v, %d: the periods differ", r, k)
			}
		}
	}
}

func TestTheRuleIsLeftAsItIs(t *testing.T) {
	weekdays := []api.Weekday{{N: -1, Day: 4}, {N: 0, Day: 1}, {N: 9, Day: 9}}
	monthDays := []int{-1, 7, 14, 31, 99}
	months := []int{2, 5, 12, 99, 98}
	r := in(at(on(each(api.Monthly, 1), weekdays[:2]...), monthDays[:4]...), months[:3]...)
	for start := range 800 {
		days.Period(r, start, 1)
		days.Of(r, start, 1)
	}
	if !slices.Equal(weekdays, []api.Weekday{{N: -1, Day: 4}, {N: 0, Day: 1}, {N: 9, Day: 9}}) ||
		!slices.Equal(monthDays, []int{-1, 7, 14, 31, 99}) || !slices.Equal(months, []int{2, 5, 12, 99, 98}) {
		t.Error("the lists of the rule are changed")
	}
}

func TestTheDaysAreNewMemory(t *testing.T) {
	r := on(each(api.Monthly, 1), nth(0, 1), nth(0, 3))
	a, b := days.Of(r, 0, 0), days.Of(r, 0, 0)
	want := slices.Clone(a)
	for i := range a[:cap(a)] {
		a[:cap(a)][i] = -7
	}
	if !slices.Equal(b, want) || !slices.Equal(days.Of(r, 0, 0), want) {
		t.Error("what is written to one result is seen in another one")
	}
	r.ByDay[0] = nth(0, 0)
	if !slices.Equal(b, want) {
		t.Error("a change of the rule is seen in a result")
	}
}
