package rule_test

import (
	"math/rand"
	"testing"
	"time"

	"hostelry/api"
	"hostelry/civil"
	"hostelry/rule"
)

// number gives the number of the day of a date.
func number(t *testing.T, year, month, day int) int {
	t.Helper()
	n, err := civil.Number(api.Date{Year: year, Month: month, Day: day})
	if err != api.OK {
		t.Fatalf("%d-%d-%d: %v", year, month, day, err)
	}
	return n
}

// daysOf gives the days of the month, from 1 on, on which the rule fits.
func daysOf(t *testing.T, r api.Rule, year, month int) []int {
	t.Helper()
	var out []int
	for day := 1; day <= civil.Length(year, month); day++ {
		if rule.Fits(r, number(t, year, month, day)) {
			out = append(out, day)
		}
	}
	return out
}

func expectDays(t *testing.T, r api.Rule, year, month int, want ...int) {
	t.Helper()
	got := daysOf(t, r, year, month)
	same := len(got) == len(want)
	for i := range got {
		same = same && got[i] == want[i]
	}
	if !same {
		t.Errorf("%+v in %d-%d: fits %v, want %v", r, year, month, got, want)
	}
}

// P4.2

func TestTheExamplesOfTheChapter(t *testing.T) {
	// In May 2024, the 29th satisfies N 5 and N -1 with Day 2.
	for n := -5; n <= 5; n++ {
		got := rule.Fits(on(api.Monthly, nth(n, 2)), number(t, 2024, 5, 29))
		if want := n == 5 || n == -1 || n == 0; got != want {
			t.Errorf("the 29th of May 2024 with N %d: %v", n, got)
		}
	}
	// N -1 and Day 4 is the last Friday.
	last := on(api.Monthly, nth(-1, 4))
	expectDays(t, last, 2024, 5, 31)
	expectDays(t, last, 2024, 6, 28)
	expectDays(t, last, 2021, 2, 26)
}

func TestWhatIsNoRuleFitsNoDay(t *testing.T) {
	for _, r := range []api.Rule{
		{},
		rule.Once(),
		{Until: -1, ByMonth: []int{}},
		{Freq: api.Daily, Until: -1},
		{Freq: api.Daily, Every: 101, Until: -1},
		{Freq: api.Daily, Every: 1, Count: 1, Until: 0},
		{Freq: 5, Every: 1, Until: -1},
		days(api.Weekly, 1),
		days(api.Yearly, 1),
		on(api.Yearly, nth(0, 5)),
		on(api.Weekly, nth(1, 5)),
		on(api.Daily, nth(1, 5)),
		on(api.Monthly, nth(0, 5), nth(0, 5)),
		on(api.Monthly, nth(0, 6), nth(0, 5)),
		days(api.Monthly, 2, 1),
		days(api.Monthly, 1, 1),
		days(api.Monthly, 0, 1),
		months(api.Monthly, 2, 1),
		months(api.Monthly, 1, 13),
	} {
		for day := range 800 {
			if rule.Fits(r, day) {
				t.Errorf("Fits(%+v, %d) is true", r, day)
			}
		}
	}
}

func TestDaysThatThereAreNot(t *testing.T) {
	for _, freq := range freqs() {
		r := each(freq)
		for _, day := range append(far(), -366, -2, -1, api.MaxDay, api.MaxDay+1, api.MaxMinute) {
			if rule.Fits(r, day) {
				t.Errorf("Fits(%+v, %d) is true", r, day)
			}
		}
		for _, day := range []int{0, 1, api.MaxDay - 2, api.MaxDay - 1} {
			if !rule.Fits(r, day) {
				t.Errorf("Fits(%+v, %d) is false", r, day)
			}
		}
	}
	// The days before the first and after the last one have a weekday, but are none.
	week := on(api.Weekly, nth(0, 0), nth(0, 1), nth(0, 2), nth(0, 3), nth(0, 4), nth(0, 5), nth(0, 6))
	for _, day := range []int{-7, -1, api.MaxDay, api.MaxDay + 6} {
		if rule.Fits(week, day) {
			t.Errorf("Fits(%+v, %d) is true", week, day)
		}
	}
}

func TestWithoutListsEachDayFits(t *testing.T) {
	for _, freq := range freqs() {
		r := each(freq)
		for day := range api.MaxDay {
			if !rule.Fits(r, day) {
				t.Fatalf("Fits(%+v, %d) is false", r, day)
			}
		}
	}
}

func TestMonthsOfFits(t *testing.T) {
	for _, freq := range freqs() {
		r := months(freq, 2, 5, 12)
		for month := 1; month <= 12; month++ {
			want := 0
			if month == 2 || month == 5 || month == 12 {
				want = civil.Length(2023, month)
			}
			if got := len(daysOf(t, r, 2023, month)); got != want {
				t.Errorf("%+v: month %d has %d days, want %d", r, month, got, want)
			}
		}
	}
}

func TestMonthDaysFromTheEnd(t *testing.T) {
	last := days(api.Monthly, -1)
	expectDays(t, last, 2023, 2, 28)
	expectDays(t, last, 2024, 2, 29)
	expectDays(t, last, 2023, 4, 30)
	expectDays(t, last, 2023, 12, 31)
	expectDays(t, days(api.Monthly, -2), 2023, 2, 27)
	expectDays(t, days(api.Monthly, -28), 2023, 2, 1)
	expectDays(t, days(api.Monthly, -28), 2024, 2, 2)
	expectDays(t, days(api.Monthly, -29), 2023, 2)
	expectDays(t, days(api.Monthly, -29), 2024, 2, 1)
	expectDays(t, days(api.Monthly, -30), 2024, 2)
	expectDays(t, days(api.Monthly, -30), 2023, 4, 1)
	expectDays(t, days(api.Monthly, -31), 2023, 4)
	expectDays(t, days(api.Monthly, -31), 2023, 5, 1)
	expectDays(t, days(api.Monthly, 29), 2023, 2)
	expectDays(t, days(api.Monthly, 29), 2024, 2, 29)
	expectDays(t, days(api.Monthly, 31), 2023, 4)
	expectDays(t, days(api.Monthly, 31), 2023, 5, 31)
	expectDays(t, days(api.Monthly, -28, -1, 1, 28), 2023, 2, 1, 28) // named twice, and a day all the same
	expectDays(t, days(api.Daily, -1, 1), 2023, 9, 1, 30)
	expectDays(t, in(days(api.Yearly, -1, 1), 9), 2023, 9, 1, 30)
	expectDays(t, in(days(api.Yearly, -1, 1), 9), 2023, 10)
}

func TestEachMonthDay(t *testing.T) {
	for n := -31; n <= 31; n++ {
		if n == 0 {
			continue
		}
		r := days(api.Monthly, n)
		for _, c := range []struct{ year, month, length int }{{2023, 2, 28}, {2024, 2, 29}, {2023, 6, 30}, {2023, 7, 31}} {
			want := n
			if n < 0 {
				want = c.length + 1 + n
			}
			if want < 1 || want > c.length {
				expectDays(t, r, c.year, c.month)
			} else {
				expectDays(t, r, c.year, c.month, want)
			}
		}
	}
}

func TestWeekdaysOfAMonth(t *testing.T) {
	// May 2024 begins with a Wednesday: it has five Wednesdays, Thursdays and
	// Fridays, and four of each other weekday.
	for _, c := range []struct {
		w    api.Weekday
		want []int
	}{
		{nth(0, 2), []int{1, 8, 15, 22, 29}},
		{nth(1, 2), []int{1}},
		{nth(2, 2), []int{8}},
		{nth(4, 2), []int{22}},
		{nth(5, 2), []int{29}},
		{nth(-1, 2), []int{29}},
		{nth(-2, 2), []int{22}},
		{nth(-4, 2), []int{8}},
		{nth(-5, 2), []int{1}},
		{nth(0, 4), []int{3, 10, 17, 24, 31}},
		{nth(5, 4), []int{31}},
		{nth(-5, 4), []int{3}},
		{nth(0, 5), []int{4, 11, 18, 25}},
		{nth(1, 5), []int{4}},
		{nth(4, 5), []int{25}},
		{nth(5, 5), nil},
		{nth(-1, 5), []int{25}},
		{nth(-4, 5), []int{4}},
		{nth(-5, 5), nil},
		{nth(0, 1), []int{7, 14, 21, 28}},
		{nth(1, 1), []int{7}},
		{nth(-1, 1), []int{28}},
		{nth(-4, 1), []int{7}},
		{nth(5, 1), nil},
		{nth(-5, 1), nil},
	} {
		expectDays(t, on(api.Monthly, c.w), 2024, 5, c.want...)
		expectDays(t, in(on(api.Yearly, c.w), 5), 2024, 5, c.want...)
		expectDays(t, in(on(api.Yearly, c.w), 4, 6), 2024, 5)
	}
	// February 2021 is four whole weeks.
	for day := range 7 {
		expectDays(t, on(api.Monthly, nth(5, day)), 2021, 2)
		expectDays(t, on(api.Monthly, nth(-5, day)), 2021, 2)
		expectDays(t, on(api.Monthly, nth(4, day)), 2021, 2, 22+day)
		expectDays(t, on(api.Monthly, nth(-4, day)), 2021, 2, 1+day)
	}
	expectDays(t, on(api.Weekly, nth(0, 1)), 2024, 5, 7, 14, 21, 28)
	expectDays(t, on(api.Daily, nth(0, 1), nth(0, 6)), 2024, 5, 5, 7, 12, 14, 19, 21, 26, 28)
}

func TestAListWantsOneOfItsElements(t *testing.T) {
	expectDays(t, on(api.Monthly, nth(-1, 4), nth(0, 1), nth(1, 2)), 2024, 5, 1, 7, 14, 21, 28, 31)
	expectDays(t, days(api.Monthly, -31, 1, 13, 31), 2024, 5, 1, 13, 31)
	expectDays(t, on(api.Monthly, nth(-1, 2), nth(0, 2), nth(5, 2)), 2024, 5, 1, 8, 15, 22, 29)
}

func TestAllListsMustBeSatisfied(t *testing.T) {
	friday := on(api.Monthly, nth(0, 4))
	friday.ByMonthDay = []int{13}
	expectDays(t, friday, 2024, 9, 13)
	expectDays(t, friday, 2024, 12, 13)
	expectDays(t, friday, 2024, 5)
	expectDays(t, in(friday, 9), 2024, 9, 13)
	expectDays(t, in(friday, 9), 2024, 12)
	friday.Freq = api.Daily
	expectDays(t, friday, 2024, 9, 13)
	friday.Freq = api.Yearly
	expectDays(t, in(friday, 9), 2024, 9, 13)
	expectDays(t, in(friday, 9), 2023, 9)
	expectDays(t, in(on(api.Weekly, nth(0, 4)), 2), 2021, 2, 5, 12, 19, 26)
	expectDays(t, in(on(api.Weekly, nth(0, 4)), 2), 2021, 3)
}

func TestTheEndsOfAllDays(t *testing.T) {
	// The first of January 2000 is a Saturday, the last of December 2099 a Thursday.
	for _, c := range []struct {
		r           api.Rule
		first, last bool
	}{
		{on(api.Monthly, nth(1, 5)), true, false},
		{on(api.Monthly, nth(-5, 5)), true, false},
		{on(api.Monthly, nth(-4, 5)), false, false},
		{on(api.Monthly, nth(5, 3)), false, true},
		{on(api.Monthly, nth(-1, 3)), false, true},
		{on(api.Monthly, nth(0, 3), nth(0, 5)), true, true},
		{days(api.Monthly, 1), true, false},
		{days(api.Monthly, -31), true, false},
		{days(api.Monthly, 31), false, true},
		{days(api.Monthly, -1), false, true},
		{months(api.Yearly, 1), true, false},
		{months(api.Yearly, 12), false, true},
	} {
		if first, last := rule.Fits(c.r, 0), rule.Fits(c.r, api.MaxDay-1); first != c.first || last != c.last {
			t.Errorf("%+v: the first day is %v, the last one %v", c.r, first, last)
		}
	}
}

// today is a day with all that the lists of a rule can ask of it.
type today struct {
	month, day, fromEnd  int
	weekday              int
	position, posFromEnd int
}

// allDays gives them by Go's own calendar; the positions are counted day by day.
func allDays() []today {
	out := make([]today, api.MaxDay)
	first := time.Date(2000, time.January, 1, 0, 0, 0, 0, time.UTC)
	for i := range out {
		d := first.AddDate(0, 0, i)
		out[i] = today{month: int(d.Month()), day: d.Day(), weekday: (int(d.Weekday()) + 6) % 7}
		out[i].fromEnd = d.Day() - d.AddDate(0, 1, -d.Day()+1).AddDate(0, 0, -1).Day() - 1
		for e := d; e.Month() == d.Month(); e = e.AddDate(0, 0, -7) {
			out[i].position++
		}
		for e := d; e.Month() == d.Month(); e = e.AddDate(0, 0, 7) {
			out[i].posFromEnd--
		}
	}
	return out
}

// fitsByWords tells by the words of the chapter whether the day satisfies the lists.
func fitsByWords(r api.Rule, d today) bool {
	month, monthDay, day := len(r.ByMonth) == 0, len(r.ByMonthDay) == 0, len(r.ByDay) == 0
	for _, m := range r.ByMonth {
		month = month || m == d.month
	}
	for _, n := range r.ByMonthDay {
		monthDay = monthDay || n == d.day || n == d.fromEnd
	}
	for _, w := range r.ByDay {
		n := w.N == 0 || w.N == d.position || w.N == d.posFromEnd
		day = day || n && w.Day == d.weekday
	}
	return month && monthDay && day
}

func TestEachWeekdayOfEachMonth(t *testing.T) {
	all := allDays()
	for n := -5; n <= 5; n++ {
		for w := range 7 {
			r := on(api.Monthly, nth(n, w))
			for i, d := range all {
				if got := rule.Fits(r, i); got != fitsByWords(r, d) {
					t.Fatalf("Fits(%+v, %d) = %v; the day is %+v", r, i, got, d)
				}
			}
		}
	}
}

func TestManyRulesAndDays(t *testing.T) {
	all := allDays()
	r := rand.New(rand.NewSource(42))
	for range 40000 {
		a := some(r)
		is := isByWords(a) && a.Freq != 0
		for range 20 {
			day := r.Intn(api.MaxDay)
			if got, want := rule.Fits(a, day), is && fitsByWords(a, all[day]); got != want {
				t.Fatalf("Fits(%+v, %d) = %v; the day is %+v", a, day, got, all[day])
			}
		}
	}
}

// P4.3

func TestTheDaysHangOnTheListsAlone(t *testing.T) {
	r := on(api.Monthly, nth(-1, 4), nth(0, 1))
	r.ByMonth = []int{2, 5}
	others := []api.Rule{apart(r), apart(r), apart(r), apart(r)}
	others[1].Every = 100
	others[2].Count = 1
	others[3].Until = 0
	for _, other := range append(others, in(r, 2, 5)) {
		for day := range 3000 {
			if rule.Fits(other, day) != rule.Fits(r, day) {
				t.Fatalf("Fits(%+v, %d) is not that of %+v", other, day, r)
			}
		}
	}
	other := apart(r)
	other.Freq = api.Yearly
	for day := range 3000 {
		if rule.Fits(other, day) != rule.Fits(r, day) {
			t.Fatalf("Fits(%+v, %d) is not that of %+v", other, day, r)
		}
	}
}

func TestRulesThatAreTheSameHaveTheSameDays(t *testing.T) {
	for _, r := range different() {
		other := apart(r)
		for day := -2; day < 1000; day++ {
			if rule.Fits(r, day) != rule.Fits(other, day) {
				t.Fatalf("Fits(%+v, %d) differs for a rule that is the same", r, day)
			}
		}
	}
}
