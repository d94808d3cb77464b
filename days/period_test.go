package days_test

import (
	"math"
	"math/rand"
	"testing"
	"time"

	"hostelry/api"
	"hostelry/civil"
	"hostelry/days"
	"hostelry/rule"
)

// each gives the rule of this frequency that has no lists and no end.
func each(freq, every int) api.Rule {
	return api.Rule{Freq: freq, Every: every, Until: -1}
}

// freqs are the four frequencies.
func freqs() []int {
	return []int{api.Daily, api.Weekly, api.Monthly, api.Yearly}
}

// far are arguments beyond everything that the chapter names.
func far() []int {
	return []int{math.MinInt, math.MinInt + 1, math.MinInt32, math.MaxInt32, math.MaxInt/100 + 1, math.MaxInt/7 + 1, math.MaxInt/2 + 1, math.MaxInt - 1, math.MaxInt}
}

// number gives the number of the day of a date.
func number(t *testing.T, year, month, day int) int {
	t.Helper()
	n, err := civil.Number(api.Date{Year: year, Month: month, Day: day})
	if err != api.OK {
		t.Fatalf("%d-%d-%d: %v", year, month, day, err)
	}
	return n
}

func expectPeriod(t *testing.T, r api.Rule, start, k, first, end int) {
	t.Helper()
	if f, e, ok := days.Period(r, start, k); !ok || f != first || e != end {
		t.Errorf("Period(%+v, %d, %d) = %d, %d, %v, want %d, %d, true", r, start, k, f, e, ok, first, end)
	}
}

func expectNone(t *testing.T, r api.Rule, start, k int) {
	t.Helper()
	if f, e, ok := days.Period(r, start, k); f != 0 || e != 0 || ok {
		t.Errorf("Period(%+v, %d, %d) = %d, %d, %v, want 0, 0, false", r, start, k, f, e, ok)
	}
	if l := days.Of(r, start, k); len(l) != 0 {
		t.Errorf("Of(%+v, %d, %d) = %v, want nothing", r, start, k, l)
	}
}

// P5.1

func TestDailyPeriods(t *testing.T) {
	for _, every := range []int{1, 2, 7, 99, 100} {
		for _, start := range []int{0, 1, 58, 59, 60, 365, 366, 20000, api.MaxDay - 1} {
			r := each(api.Daily, every)
			last := (api.MaxDay - 1 - start) / every
			for _, k := range []int{0, 1, 2, last / 2, last - 1, last} {
				if k >= 0 && k <= last {
					day := start + k*every
					expectPeriod(t, r, start, k, day, day+1)
				}
			}
			expectNone(t, r, start, last+1)
		}
	}
	expectPeriod(t, each(api.Daily, 1), 0, api.MaxDay-1, api.MaxDay-1, api.MaxDay)
	expectNone(t, each(api.Daily, 1), 0, api.MaxDay)
	expectPeriod(t, each(api.Daily, 100), 24, 365, api.MaxDay-1, api.MaxDay)
	expectNone(t, each(api.Daily, 100), 25, 365)
}

func TestWeeklyPeriods(t *testing.T) {
	// The 29th of April 2024 is a Monday.
	monday := number(t, 2024, 4, 29)
	for day := monday; day < monday+7; day++ {
		for _, every := range []int{1, 2, 50, 100} {
			r := each(api.Weekly, every)
			for _, k := range []int{0, 1, 2, 3, 30} {
				first := monday + 7*every*k
				expectPeriod(t, r, day, k, first, first+7)
			}
		}
	}
	expectPeriod(t, each(api.Weekly, 1), monday-1, 0, monday-7, monday)
	expectPeriod(t, each(api.Weekly, 1), monday+7, 0, monday+7, monday+14)
}

func TestWeeksAtTheEnds(t *testing.T) {
	// The first day is a Saturday, the last one a Thursday.
	r := each(api.Weekly, 1)
	expectPeriod(t, r, 0, 0, 0, 2)
	expectPeriod(t, r, 1, 0, 0, 2)
	expectPeriod(t, r, 2, 0, 2, 9)
	expectPeriod(t, r, 8, 0, 2, 9)
	expectPeriod(t, r, 0, 1, 2, 9)
	expectPeriod(t, r, 1, 1, 2, 9)
	expectPeriod(t, r, 0, 2, 9, 16)
	expectPeriod(t, each(api.Weekly, 100), 1, 1, 695, 702)
	const lastMonday = api.MaxDay - 4
	for day := lastMonday; day < api.MaxDay; day++ {
		expectPeriod(t, r, day, 0, lastMonday, api.MaxDay)
		expectNone(t, r, day, 1)
		expectNone(t, each(api.Weekly, 100), day, 1)
	}
	expectPeriod(t, r, lastMonday-1, 0, lastMonday-7, lastMonday)
	expectPeriod(t, r, lastMonday-1, 1, lastMonday, api.MaxDay)
	expectNone(t, r, lastMonday-1, 2)
	// All weeks: the first one begins five days before the first day.
	const weeks = (lastMonday + 5) / 7
	expectPeriod(t, r, 0, weeks, lastMonday, api.MaxDay)
	expectPeriod(t, r, 0, weeks-1, lastMonday-7, lastMonday)
	expectNone(t, r, 0, weeks+1)
}

func TestMonthlyPeriods(t *testing.T) {
	for _, c := range []struct {
		year, month, day, every, k     int
		toYear, toMonth, toDays, first int
	}{
		{2024, 1, 31, 1, 0, 2024, 1, 31, 1},
		{2024, 1, 1, 1, 1, 2024, 2, 29, 1},
		{2024, 1, 31, 1, 1, 2024, 2, 29, 1},
		{2023, 1, 31, 1, 1, 2023, 2, 28, 1},
		{2023, 12, 15, 1, 0, 2023, 12, 31, 1},
		{2023, 12, 15, 1, 1, 2024, 1, 31, 1},
		{2023, 12, 31, 2, 1, 2024, 2, 29, 1},
		{2023, 11, 30, 1, 1, 2023, 12, 31, 1},
		{2023, 11, 30, 1, 2, 2024, 1, 31, 1},
		{2023, 1, 1, 12, 1, 2024, 1, 31, 1},
		{2023, 4, 30, 11, 1, 2024, 3, 31, 1},
		{2023, 4, 30, 13, 2, 2025, 6, 30, 1},
		{2023, 8, 9, 100, 1, 2031, 12, 31, 1},
		{2023, 9, 9, 100, 1, 2032, 1, 31, 1},
		{2000, 1, 1, 100, 11, 2091, 9, 30, 1},
		{2000, 1, 1, 1, 1199, 2099, 12, 31, 1},
		{2000, 1, 31, 1, 1198, 2099, 11, 30, 1},
		{2099, 12, 31, 1, 0, 2099, 12, 31, 1},
		{2091, 8, 31, 100, 1, 2099, 12, 31, 1},
	} {
		start, first := number(t, c.year, c.month, c.day), number(t, c.toYear, c.toMonth, 1)
		expectPeriod(t, each(api.Monthly, c.every), start, c.k, first, first+c.toDays)
	}
	expectNone(t, each(api.Monthly, 1), 0, 1200)
	expectNone(t, each(api.Monthly, 100), 0, 12)
	expectNone(t, each(api.Monthly, 1), api.MaxDay-1, 1)
	expectNone(t, each(api.Monthly, 100), number(t, 2091, 9, 1), 1)
	expectPeriod(t, each(api.Monthly, 1), 0, 0, 0, 31)
	expectPeriod(t, each(api.Monthly, 1), 30, 0, 0, 31)
	expectPeriod(t, each(api.Monthly, 1), 31, 0, 31, 60)
	expectPeriod(t, each(api.Monthly, 1), api.MaxDay-1, 0, api.MaxDay-31, api.MaxDay)
	expectPeriod(t, each(api.Monthly, 1), api.MaxDay-32, 1, api.MaxDay-31, api.MaxDay)
}

func TestYearlyPeriods(t *testing.T) {
	for _, day := range [][2]int{{1, 1}, {2, 28}, {6, 15}, {12, 31}} {
		for _, c := range []struct{ year, every, k, to, length int }{
			{2023, 1, 0, 2023, 365},
			{2023, 1, 1, 2024, 366},
			{2024, 1, 0, 2024, 366},
			{2024, 1, 1, 2025, 365},
			{2024, 4, 3, 2036, 366},
			{2000, 1, 0, 2000, 366},
			{2000, 1, 99, 2099, 365},
			{2000, 99, 1, 2099, 365},
			{2000, 48, 2, 2096, 366},
			{2099, 1, 0, 2099, 365},
			{2099, 100, 0, 2099, 365},
			{2098, 1, 1, 2099, 365},
		} {
			start, first := number(t, c.year, day[0], day[1]), number(t, c.to, 1, 1)
			expectPeriod(t, each(api.Yearly, c.every), start, c.k, first, first+c.length)
		}
		expectNone(t, each(api.Yearly, 100), number(t, 2000, day[0], day[1]), 1)
		expectNone(t, each(api.Yearly, 1), number(t, 2000, day[0], day[1]), 100)
		expectNone(t, each(api.Yearly, 1), number(t, 2099, day[0], day[1]), 1)
	}
	expectPeriod(t, each(api.Yearly, 1), 0, 0, 0, 366)
	expectPeriod(t, each(api.Yearly, 1), 365, 0, 0, 366)
	expectPeriod(t, each(api.Yearly, 1), 366, 0, 366, 731)
	expectPeriod(t, each(api.Yearly, 1), api.MaxDay-1, 0, api.MaxDay-365, api.MaxDay)
	expectPeriod(t, each(api.Yearly, 1), number(t, 2024, 2, 29), 1, number(t, 2025, 1, 1), number(t, 2026, 1, 1))
}

func TestPeriodsThatThereAreNot(t *testing.T) {
	for _, freq := range freqs() {
		for _, every := range []int{1, 2, 7, 50, 100} {
			r := each(freq, every)
			for _, start := range []int{0, 1, 20000, api.MaxDay - 1} {
				if _, _, ok := days.Period(r, start, 0); !ok {
					t.Errorf("Period(%+v, %d, 0): none", r, start)
				}
				for _, k := range append(far(), -2, -1, api.MaxDay, api.MaxDay+1, api.MaxMinute) {
					expectNone(t, r, start, k)
				}
			}
		}
	}
}

func TestStartsThatThereAreNot(t *testing.T) {
	for _, freq := range freqs() {
		for _, every := range []int{1, 100} {
			for _, start := range append(far(), -366, -31, -7, -5, -2, -1, api.MaxDay, api.MaxDay+1, api.MaxMinute) {
				for _, k := range append(far(), -1, 0, 1, 2, 1200) {
					expectNone(t, each(freq, every), start, k)
				}
			}
		}
	}
}

func TestWhatIsNoRuleHasNoPeriods(t *testing.T) {
	for _, r := range []api.Rule{
		{},
		rule.Once(),
		{Until: -1, ByDay: []api.Weekday{}, ByMonthDay: []int{}, ByMonth: []int{}},
		{Every: 1, Until: -1},
		each(-1, 1),
		each(5, 1),
		each(math.MaxInt, 1),
		each(math.MinInt, 1),
		each(api.Daily, 0),
		each(api.Daily, -1),
		each(api.Weekly, 101),
		each(api.Monthly, math.MaxInt),
		each(api.Yearly, math.MinInt),
		{Freq: api.Daily, Every: 1, Until: -2},
		{Freq: api.Daily, Every: 1, Until: api.MaxMinute},
		{Freq: api.Daily, Every: 1, Count: 1},
		{Freq: api.Daily, Every: 1, Until: -1, Count: 41},
		{Freq: api.Daily, Every: 1, Until: -1, Count: -1},
		{Freq: api.Daily, Every: 1, Until: -1, ByMonth: []int{0}},
		{Freq: api.Daily, Every: 1, Until: -1, ByDay: []api.Weekday{{N: 1}}},
		{Freq: api.Weekly, Every: 1, Until: -1, ByMonthDay: []int{1}},
		{Freq: api.Yearly, Every: 1, Until: -1, ByMonthDay: []int{1}},
		{Freq: api.Yearly, Every: 1, Until: -1, ByDay: []api.Weekday{{Day: 1}}},
		{Freq: api.Monthly, Every: 1, Until: -1, ByMonthDay: []int{2, 1}},
		{Freq: api.Monthly, Every: 1, Until: -1, ByDay: []api.Weekday{{N: 6}}},
		{Freq: api.Monthly, Every: 1, Until: -1, ByMonthDay: []int{0}, Count: 1},
		{Freq: api.Monthly, Every: 1, Until: -1, ByMonth: []int{1, 1}, Count: 1},
		{Freq: api.Monthly, Every: 1, Until: 2, ByMonth: []int{1}, Count: 1},
		{Freq: api.Monthly, Every: 1, Until: -1, ByDay: []api.Weekday{{Day: 7}}},
		{Freq: api.Monthly, Every: 1, Until: -1, ByDay: []api.Weekday{{Day: -1}}},
		{Freq: api.Monthly, Every: 1, Until: -1, ByMonthDay: make([]int, 13)},
		{Freq: api.Monthly, Every: 1, Until: -1, ByDay: make([]api.Weekday, 2)},
		{Freq: api.Monthly, Every: 1, Until: -1, ByMonth: []int{1, 2, 3, 4, 5, 13}},
	} {
		for _, start := range []int{0, 5, 20000, api.MaxDay - 1} {
			for _, k := range []int{-1, 0, 1, 2} {
				expectNone(t, r, start, k)
			}
		}
	}
}

func TestPeriodsHangOnFreqAndEveryAlone(t *testing.T) {
	for _, freq := range freqs() {
		r := each(freq, 3)
		others := []api.Rule{r, r, r, r, r}
		others[0].Count = 1
		others[1].Until = 0
		others[2].Until = api.MaxMinute - 1
		others[3].ByMonth = []int{12}
		others[4].ByMonth, others[4].ByDay = []int{2}, []api.Weekday{{Day: 3}}
		for _, other := range others {
			for _, start := range []int{0, 59, 9000, api.MaxDay - 400} {
				for _, k := range []int{0, 1, 5, 33} {
					f, e, ok := days.Period(r, start, k)
					if f2, e2, ok2 := days.Period(other, start, k); f2 != f || e2 != e || ok2 != ok {
						t.Errorf("Period(%+v, %d, %d) = %d, %d, %v, without the rest %d, %d, %v", other, start, k, f2, e2, ok2, f, e, ok)
					}
				}
			}
		}
	}
}

// today is a day with the units of time that it lies in, counted on from some one.
type today struct {
	year, month, week, day       int
	monthDay, fromEnd, weekday   int
	monthOfYear, nth, nthFromEnd int
}

// allDays gives them by Go's own calendar, going from day to day.
func allDays() []today {
	out := make([]today, api.MaxDay)
	at := time.Date(2000, time.January, 1, 0, 0, 0, 0, time.UTC)
	week := 0
	for i := range out {
		d := at.AddDate(0, 0, i)
		if d.Weekday() == time.Monday {
			week++
		}
		length := time.Date(d.Year(), d.Month()+1, 0, 0, 0, 0, 0, time.UTC).Day()
		out[i] = today{
			year: d.Year(), month: d.Year()*12 + int(d.Month()), week: week, day: i,
			monthDay: d.Day(), fromEnd: d.Day() - length - 1, weekday: (int(d.Weekday()) + 6) % 7,
			monthOfYear: int(d.Month()), nth: (d.Day()-1)/7 + 1, nthFromEnd: -(length-d.Day())/7 - 1,
		}
	}
	return out
}

// unit gives the number of the day's unit of this frequency.
func (d today) unit(freq int) int {
	return [...]int{0, d.day, d.week, d.month, d.year}[freq]
}

// periodsByWords gives the days of each period that has some.
func periodsByWords(all []today, r api.Rule, start int) map[int][]int {
	out := map[int][]int{}
	for i, d := range all {
		n := d.unit(r.Freq) - all[start].unit(r.Freq)
		if n >= 0 && n%r.Every == 0 {
			out[n/r.Every] = append(out[n/r.Every], i)
		}
	}
	return out
}

func TestAllPeriods(t *testing.T) {
	all := allDays()
	r := rand.New(rand.NewSource(5))
	for _, freq := range freqs() {
		for n := range 30 {
			every := []int{1, 100, 2, 1 + r.Intn(100)}[n%4]
			start := []int{0, r.Intn(400), r.Intn(api.MaxDay), api.MaxDay - 1 - r.Intn(800), api.MaxDay - 1}[n%5]
			a := each(freq, every)
			want := periodsByWords(all, a, start)
			for k := range len(want) {
				l := want[k]
				if f, e, ok := days.Period(a, start, k); !ok || f != l[0] || e != l[len(l)-1]+1 || e-f != len(l) {
					t.Fatalf("Period(%+v, %d, %d) = %d, %d, %v, want %d .. %d", a, start, k, f, e, ok, l[0], l[len(l)-1])
				}
			}
			expectNone(t, a, start, len(want))
			expectNone(t, a, start, len(want)+1)
		}
	}
}

// P5.3

func TestEachDayIsInAtMostOnePeriod(t *testing.T) {
	for _, freq := range freqs() {
		for _, every := range []int{1, 2, 3, 52, 100} {
			for _, start := range []int{0, 1, 2, 366, 12345, api.MaxDay - 30, api.MaxDay - 1} {
				r := each(freq, every)
				upTo := 0
				for k := 0; ; k++ {
					f, e, ok := days.Period(r, start, k)
					if !ok {
						break
					}
					if f < upTo || e <= f || e > api.MaxDay {
						t.Fatalf("Period(%+v, %d, %d) = %d, %d, and the one before ends before %d", r, start, k, f, e, upTo)
					}
					if k == 0 && (start < f || start >= e) {
						t.Fatalf("Period(%+v, %d, 0) = %d, %d: start is not in it", r, start, f, e)
					}
					upTo = e
				}
				if every == 1 && upTo != api.MaxDay {
					t.Fatalf("%+v from %d on: the periods end before %d", r, start, upTo)
				}
			}
		}
	}
}
