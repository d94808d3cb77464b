package rule_test

import (
	"math"
	"math/rand"
	"reflect"
	"slices"
	"testing"

	"hostelry/api"
	"hostelry/rule"
)

// each gives the rule of this frequency that has no lists and no end.
func each(freq int) api.Rule {
	return api.Rule{Freq: freq, Every: 1, Until: -1}
}

// on gives the rule of this frequency with these weekdays.
func on(freq int, days ...api.Weekday) api.Rule {
	r := each(freq)
	r.ByDay = days
	return r
}

// days gives the rule of this frequency with these days of the month.
func days(freq int, monthDays ...int) api.Rule {
	r := each(freq)
	r.ByMonthDay = monthDays
	return r
}

// months gives the rule of this frequency with these months.
func months(freq int, l ...int) api.Rule {
	r := each(freq)
	r.ByMonth = l
	return r
}

// in gives the rule with these months instead of its own.
func in(r api.Rule, l ...int) api.Rule {
	r.ByMonth = l
	return r
}

// nth gives a weekday with its N.
func nth(n, day int) api.Weekday {
	return api.Weekday{N: n, Day: day}
}

// freqs are the four frequencies.
func freqs() []int {
	return []int{api.Daily, api.Weekly, api.Monthly, api.Yearly}
}

// far are arguments beyond everything that the chapter names.
func far() []int {
	return []int{math.MinInt, math.MinInt + 1, math.MinInt32, math.MaxInt32, math.MaxInt - 1, math.MaxInt}
}

func expectIs(t *testing.T, r api.Rule, want bool) {
	t.Helper()
	if got := rule.Is(r); got != want {
		t.Errorf("Is(%+v) = %v", r, got)
	}
}

// P4.1: Once

func TestOnce(t *testing.T) {
	r := rule.Once()
	if r.Freq != 0 || r.Every != 0 || r.Count != 0 || r.Until != -1 || len(r.ByDay) != 0 || len(r.ByMonthDay) != 0 || len(r.ByMonth) != 0 {
		t.Errorf("Once() = %+v", r)
	}
	expectIs(t, r, true)
	expectIs(t, api.Rule{Until: -1}, true)
	expectIs(t, api.Rule{Until: -1, ByDay: []api.Weekday{}, ByMonthDay: []int{}, ByMonth: []int{}}, true)
}

func TestWhatIsNearlyOnce(t *testing.T) {
	for _, r := range []api.Rule{
		{},
		{Until: 0},
		{Until: -2},
		{Until: api.MaxMinute - 1},
		{Every: 1, Until: -1},
		{Every: -1, Until: -1},
		{Count: 1, Until: -1},
		{Count: -1, Until: -1},
		{Every: 1, Count: 1, Until: -1},
		{Until: -1, ByDay: []api.Weekday{{}}},
		{Until: -1, ByMonthDay: []int{1}},
		{Until: -1, ByMonthDay: []int{0}},
		{Until: -1, ByMonth: []int{1}},
		{Freq: api.Daily, Until: -1},
		{Freq: api.Yearly, Until: -1},
		{Freq: -1, Until: -1},
		{Freq: 5, Until: -1},
	} {
		expectIs(t, r, false)
	}
}

// P4.1: Is, the numbers

func TestFreq(t *testing.T) {
	for _, freq := range freqs() {
		expectIs(t, each(freq), true)
	}
	for _, freq := range append(far(), -1, 0, 5, 6) {
		expectIs(t, each(freq), false)
	}
}

func TestEvery(t *testing.T) {
	for _, freq := range freqs() {
		r := each(freq)
		for _, r.Every = range []int{1, 2, 50, 99, 100} {
			expectIs(t, r, true)
		}
		for _, r.Every = range append(far(), -100, -1, 0, 101, 102) {
			expectIs(t, r, false)
		}
	}
}

func TestCount(t *testing.T) {
	for _, freq := range freqs() {
		r := each(freq)
		for _, r.Count = range []int{0, 1, 2, api.MaxOcc - 1, api.MaxOcc} {
			expectIs(t, r, true)
		}
		for _, r.Count = range append(far(), -2, -1, api.MaxOcc+1, api.MaxOcc+2) {
			expectIs(t, r, false)
		}
	}
}

func TestUntil(t *testing.T) {
	for _, freq := range freqs() {
		r := each(freq)
		for _, r.Until = range []int{-1, 0, 1, 2070, api.MaxMinute - 2, api.MaxMinute - 1} {
			expectIs(t, r, true)
		}
		for _, r.Until = range append(far(), -3, -2, api.MaxMinute, api.MaxMinute+1) {
			expectIs(t, r, false)
		}
	}
}

func TestNotBothCountAndUntil(t *testing.T) {
	for _, freq := range freqs() {
		r := each(freq)
		for _, r.Count = range []int{0, 1, api.MaxOcc} {
			for _, r.Until = range []int{-1, 0, 1, api.MaxMinute - 1} {
				expectIs(t, r, r.Count == 0 || r.Until == -1)
			}
		}
	}
}

// P4.1: Is, the lists

func TestListsMayBeEmpty(t *testing.T) {
	for _, freq := range freqs() {
		r := each(freq)
		r.ByDay, r.ByMonthDay, r.ByMonth = []api.Weekday{}, []int{}, []int{}
		expectIs(t, r, true)
	}
}

func TestDayOfAWeekday(t *testing.T) {
	for _, freq := range freqs() {
		for day := range 7 {
			expectIs(t, in(on(freq, nth(0, day)), 1), true)
		}
		for _, day := range append(far(), -2, -1, 7, 8) {
			expectIs(t, in(on(freq, nth(0, day)), 1), false)
			expectIs(t, in(on(freq, nth(0, 0), nth(0, day)), 1), false)
		}
	}
}

func TestNForEachFreq(t *testing.T) {
	for _, freq := range freqs() {
		for n := -5; n <= 5; n++ {
			for day := range 7 {
				want := n == 0 || freq == api.Monthly || freq == api.Yearly
				expectIs(t, in(on(freq, nth(n, day)), 6), want)
			}
		}
		for _, n := range append(far(), -7, -6, 6, 7) {
			expectIs(t, in(on(freq, nth(n, 3)), 6), false)
		}
	}
	// One of several is enough, wherever it stands.
	for _, freq := range []int{api.Daily, api.Weekly} {
		expectIs(t, on(freq, nth(0, 0), nth(0, 6)), true)
		expectIs(t, on(freq, nth(0, 0), nth(1, 6)), false)
		expectIs(t, on(freq, nth(-1, 0), nth(0, 6)), false)
	}
}

func TestOrderOfByDay(t *testing.T) {
	for _, c := range []struct {
		days []api.Weekday
		want bool
	}{
		{[]api.Weekday{nth(0, 0), nth(0, 1)}, true},
		{[]api.Weekday{nth(0, 1), nth(0, 0)}, false},
		{[]api.Weekday{nth(0, 1), nth(0, 1)}, false},
		{[]api.Weekday{nth(2, 4), nth(2, 4)}, false},
		{[]api.Weekday{nth(-1, 4), nth(0, 0)}, true}, // N comes before Day
		{[]api.Weekday{nth(0, 0), nth(-1, 4)}, false},
		{[]api.Weekday{nth(1, 6), nth(2, 0)}, true},
		{[]api.Weekday{nth(2, 0), nth(1, 6)}, false},
		{[]api.Weekday{nth(1, 3), nth(2, 3)}, true},
		{[]api.Weekday{nth(2, 3), nth(1, 3)}, false},
		{[]api.Weekday{nth(-5, 6), nth(-4, 0), nth(0, 3), nth(1, 3), nth(5, 0)}, true},
		{[]api.Weekday{nth(-4, 0), nth(-5, 6), nth(0, 3), nth(1, 3), nth(5, 0)}, false},
		{[]api.Weekday{nth(-5, 6), nth(-4, 0), nth(0, 3), nth(5, 0), nth(1, 3)}, false},
		{[]api.Weekday{nth(1, 3), nth(0, 3), nth(1, 3)}, false}, // two alike, but not side by side
		{[]api.Weekday{nth(-1, 3), nth(-2, 3)}, false},
		{[]api.Weekday{nth(-2, 3), nth(-1, 3)}, true},
	} {
		expectIs(t, on(api.Monthly, c.days...), c.want)
		expectIs(t, in(on(api.Yearly, c.days...), 1, 12), c.want)
	}
}

func TestLengthOfByDay(t *testing.T) {
	var long []api.Weekday
	for n := -5; n <= 5; n++ {
		for day := range 7 {
			long = append(long, nth(n, day))
		}
	}
	for n := range len(long) + 1 {
		expectIs(t, on(api.Monthly, long[:n]...), n <= api.MaxList)
		expectIs(t, in(on(api.Yearly, long[:n]...), 3), n <= api.MaxList)
		expectIs(t, in(on(api.Yearly, long[len(long)-n:]...), 3), n <= api.MaxList)
	}
	week := []api.Weekday{nth(0, 0), nth(0, 1), nth(0, 2), nth(0, 3), nth(0, 4), nth(0, 5), nth(0, 6)}
	for _, freq := range freqs() {
		expectIs(t, in(on(freq, week...), 3), true)
		expectIs(t, in(on(freq, append(week, week...)...), 3), false)
	}
}

func TestElementsOfByMonthDay(t *testing.T) {
	for _, freq := range []int{api.Daily, api.Monthly, api.Yearly} {
		for n := -33; n <= 33; n++ {
			want := n >= -31 && n <= -1 || n >= 1 && n <= 31
			expectIs(t, in(days(freq, n), 1), want)
		}
		for _, n := range far() {
			expectIs(t, in(days(freq, n), 1), false)
		}
		expectIs(t, in(days(freq, -31, -1, 1, 31), 1), true)
		expectIs(t, in(days(freq, -31, -1, 0, 1, 31), 1), false)
		expectIs(t, in(days(freq, -32, -1, 1, 31), 1), false)
		expectIs(t, in(days(freq, -31, -1, 1, 32), 1), false)
	}
}

func TestByMonthDayIsAscending(t *testing.T) {
	for _, freq := range []int{api.Daily, api.Monthly, api.Yearly} {
		for a := -31; a <= 31; a++ {
			for b := -31; b <= 31; b++ {
				expectIs(t, in(days(freq, a, b), 1), a < b && a != 0 && b != 0)
			}
		}
		expectIs(t, in(days(freq, 1, 2, 3), 1), true)
		expectIs(t, in(days(freq, 1, 3, 2), 1), false)
		expectIs(t, in(days(freq, 1, 2, 1), 1), false)
	}
}

func TestLengthOfByMonthDay(t *testing.T) {
	var long []int
	for n := 1; n <= 31; n++ {
		long = append(long, n)
	}
	for _, freq := range []int{api.Daily, api.Monthly, api.Yearly} {
		for n := range len(long) + 1 {
			expectIs(t, in(days(freq, long[:n]...), 1), n <= api.MaxList)
		}
	}
}

func TestWeeklyHasNoByMonthDay(t *testing.T) {
	for n := -31; n <= 31; n++ {
		expectIs(t, days(api.Weekly, n), false)
	}
	expectIs(t, days(api.Weekly), true)
	expectIs(t, in(days(api.Weekly, 1, 2), 1), false)
	r := on(api.Weekly, nth(0, 1))
	r.ByMonthDay = []int{1}
	expectIs(t, r, false)
}

func TestElementsOfByMonth(t *testing.T) {
	for _, freq := range freqs() {
		for month := -2; month <= 14; month++ {
			expectIs(t, months(freq, month), month >= 1 && month <= 12)
		}
		for _, month := range far() {
			expectIs(t, months(freq, month), false)
		}
		for a := 1; a <= 12; a++ {
			for b := 1; b <= 12; b++ {
				expectIs(t, months(freq, a, b), a < b)
			}
		}
		expectIs(t, months(freq, 2, 4, 3), false)
		expectIs(t, months(freq, 0, 1, 2), false)
		expectIs(t, months(freq, 11, 12, 13), false)
	}
}

func TestLengthOfByMonth(t *testing.T) {
	all := []int{1, 2, 3, 4, 5, 6, 7, 8, 9, 10, 11, 12}
	for _, freq := range freqs() {
		for n := range len(all) + 1 {
			expectIs(t, months(freq, all[:n]...), true)
		}
		expectIs(t, months(freq, append(all, 12)...), false)
		expectIs(t, months(freq, append(all, 13)...), false)
		expectIs(t, months(freq, append([]int{0}, all...)...), false)
	}
}

func TestYearlyWithAndWithoutByMonth(t *testing.T) {
	both := on(api.Yearly, nth(1, 0))
	both.ByMonthDay = []int{1}
	for _, r := range []api.Rule{on(api.Yearly, nth(0, 0)), on(api.Yearly, nth(-1, 4)), days(api.Yearly, 1), days(api.Yearly, -1), both} {
		expectIs(t, r, false)
		expectIs(t, in(r, []int{}...), false)
		expectIs(t, in(r, 1), true)
		expectIs(t, in(r, 1, 12), true)
		// Another frequency does not ask for the month.
		r.Freq = api.Monthly
		expectIs(t, r, true)
	}
	expectIs(t, each(api.Yearly), true)
	expectIs(t, months(api.Yearly, 2), true)
	expectIs(t, on(api.Weekly, nth(0, 0)), true)
	expectIs(t, on(api.Daily, nth(0, 0)), true)
	expectIs(t, days(api.Daily, 1), true)
}

func TestTheListsOfOneRule(t *testing.T) {
	r := on(api.Monthly, nth(-1, 4), nth(0, 1))
	r.ByMonthDay, r.ByMonth, r.Every, r.Count = []int{-1, 1}, []int{2, 3}, 100, api.MaxOcc
	expectIs(t, r, true)
	for _, spoil := range []func(r *api.Rule){
		func(r *api.Rule) { r.ByDay = []api.Weekday{nth(0, 1), nth(-1, 4)} },
		func(r *api.Rule) { r.ByMonthDay = []int{1, -1} },
		func(r *api.Rule) { r.ByMonth = []int{3, 2} },
		func(r *api.Rule) { r.Every = 101 },
		func(r *api.Rule) { r.Count = api.MaxOcc + 1 },
		func(r *api.Rule) { r.Until = 0 },
		func(r *api.Rule) { r.Freq = 0 },
		func(r *api.Rule) { r.Freq = api.Daily },
		func(r *api.Rule) { r.Freq = api.Weekly },
	} {
		other := r
		spoil(&other)
		expectIs(t, other, false)
	}
	r.Freq = api.Yearly
	expectIs(t, r, true)
}

// isByWords tells by the words of the chapter whether r is a rule.
func isByWords(r api.Rule) bool {
	if r.Freq == 0 {
		return r.Every == 0 && r.Count == 0 && r.Until == -1 && len(r.ByDay)+len(r.ByMonthDay)+len(r.ByMonth) == 0
	}
	for _, c := range []struct{ n, least, greatest int }{
		{r.Freq, 1, 4}, {r.Every, 1, 100}, {r.Count, 0, 40}, {r.Until, -1, 52595999},
		{len(r.ByDay), 0, 12}, {len(r.ByMonthDay), 0, 12}, {len(r.ByMonth), 0, 12},
	} {
		if c.n < c.least || c.n > c.greatest {
			return false
		}
	}
	var keys []int // greater by N first, then by Day
	for _, w := range r.ByDay {
		if w.Day < 0 || w.Day > 6 || w.N < -5 || w.N > 5 || w.N != 0 && r.Freq < api.Monthly {
			return false
		}
		keys = append(keys, w.N*7+w.Day)
	}
	for _, l := range [][]int{keys, r.ByMonthDay, r.ByMonth} {
		sorted := slices.Compact(slices.Sorted(slices.Values(l)))
		if !slices.Equal(sorted, l) {
			return false
		}
	}
	for _, n := range r.ByMonthDay {
		if n < -31 || n == 0 || n > 31 || r.Freq == api.Weekly {
			return false
		}
	}
	for _, n := range r.ByMonth {
		if n < 1 || n > 12 {
			return false
		}
	}
	lacksMonth := r.Freq == api.Yearly && len(r.ByMonth) == 0 && len(r.ByDay)+len(r.ByMonthDay) > 0
	return !lacksMonth && !(r.Count > 0 && r.Until >= 0)
}

// some gives a rule, or what is nearly one.
func some(r *rand.Rand) api.Rule {
	out := api.Rule{Freq: r.Intn(5), Every: r.Intn(5), Until: -1}
	if r.Intn(10) == 0 {
		out.Freq, out.Every = r.Intn(8)-2, r.Intn(120)-10
	}
	switch r.Intn(8) {
	case 0:
		out.Count = r.Intn(45) - 2
	case 1:
		out.Until = r.Intn(api.MaxMinute+2) - 2
	case 2:
		out.Count, out.Until = r.Intn(3), r.Intn(3)-1
	}
	for range r.Intn(4) {
		w := nth(0, r.Intn(7))
		if r.Intn(2) == 0 {
			w = nth(r.Intn(13)-6, r.Intn(9)-1)
		}
		out.ByDay = append(out.ByDay, w)
	}
	for range r.Intn(4) {
		out.ByMonthDay = append(out.ByMonthDay, r.Intn(65)-32)
	}
	for range r.Intn(4) {
		out.ByMonth = append(out.ByMonth, r.Intn(14))
	}
	if r.Intn(4) > 0 {
		slices.SortFunc(out.ByDay, func(a, b api.Weekday) int { return a.N*16 + a.Day - b.N*16 - b.Day })
		slices.Sort(out.ByMonthDay)
		slices.Sort(out.ByMonth)
	}
	return out
}

func TestManyRules(t *testing.T) {
	r := rand.New(rand.NewSource(4))
	are := 0
	for range 300000 {
		a := some(r)
		want := isByWords(a)
		if got := rule.Is(a); got != want {
			t.Fatalf("Is(%+v) = %v", a, got)
		}
		if want {
			are++
		}
	}
	if are < 10000 || are > 290000 {
		t.Errorf("%d of the rules are rules: too few of one kind", are)
	}
}

// P4.1: Same

// different are rules, and what is none, no two of which are the same.
func different() []api.Rule {
	full := api.Rule{
		Freq: api.Monthly, Every: 2, Count: 3, Until: 4,
		ByDay: []api.Weekday{nth(-1, 4), nth(0, 1)}, ByMonthDay: []int{-1, 1}, ByMonth: []int{2, 3},
	}
	out := []api.Rule{{}, rule.Once(), each(api.Daily), each(api.Weekly), each(api.Yearly), full}
	for _, change := range []func(r *api.Rule){
		func(r *api.Rule) { r.Freq = api.Yearly },
		func(r *api.Rule) { r.Every = 3 },
		func(r *api.Rule) { r.Count = 2 },
		func(r *api.Rule) { r.Until = -1 },
		func(r *api.Rule) { r.ByDay = nil },
		func(r *api.Rule) { r.ByDay = []api.Weekday{nth(-1, 4)} },
		func(r *api.Rule) { r.ByDay = []api.Weekday{nth(0, 1), nth(-1, 4)} }, // the same elements, out of order
		func(r *api.Rule) { r.ByDay = []api.Weekday{nth(-2, 4), nth(0, 1)} },
		func(r *api.Rule) { r.ByDay = []api.Weekday{nth(-1, 5), nth(0, 1)} },
		func(r *api.Rule) { r.ByDay = []api.Weekday{nth(-1, 4), nth(0, 1), nth(0, 1)} },
		func(r *api.Rule) { r.ByMonthDay = nil },
		func(r *api.Rule) { r.ByMonthDay = []int{-1} },
		func(r *api.Rule) { r.ByMonthDay = []int{1, -1} },
		func(r *api.Rule) { r.ByMonthDay = []int{-1, 1, 1} },
		func(r *api.Rule) { r.ByMonthDay = []int{2, 3} },
		func(r *api.Rule) { r.ByMonth = nil },
		func(r *api.Rule) { r.ByMonth = []int{2} },
		func(r *api.Rule) { r.ByMonth = []int{3, 2} },
		func(r *api.Rule) { r.ByMonth = []int{2, 3, 3} },
		func(r *api.Rule) { r.ByMonth = []int{-1, 1} },
		func(r *api.Rule) { r.ByMonthDay, r.ByMonth = r.ByMonth, r.ByMonthDay },
		func(r *api.Rule) { r.Freq, r.Every, r.Count, r.Until = math.MinInt, math.MaxInt, -1, math.MaxInt },
	} {
		other := full
		change(&other)
		out = append(out, other)
	}
	return out
}

// apart gives an equal rule with other memory, more of it spare.
func apart(r api.Rule) api.Rule {
	r.ByDay = append(make([]api.Weekday, 0, 30), r.ByDay...)
	r.ByMonthDay = append(make([]int, 0, 30), r.ByMonthDay...)
	r.ByMonth = append(make([]int, 0, 30), r.ByMonth...)
	return r
}

func TestSame(t *testing.T) {
	for i, a := range different() {
		for k, b := range different() {
			if got := rule.Same(a, b); got != (i == k) {
				t.Errorf("Same(%+v, %+v) = %v", a, b, got)
			}
			if got := rule.Same(a, apart(b)); got != (i == k) {
				t.Errorf("Same(%+v, %+v) = %v with other memory", a, b, got)
			}
		}
		if !rule.Same(a, a) {
			t.Errorf("Same(%+v) with itself is false", a)
		}
	}
	if !rule.Same(rule.Once(), rule.Once()) || rule.Same(rule.Once(), each(api.Daily)) {
		t.Error("Same of Once is wrong")
	}
}

func TestANilListIsAnEmptyOne(t *testing.T) {
	a, b := each(api.Daily), each(api.Daily)
	b.ByDay, b.ByMonthDay, b.ByMonth = []api.Weekday{}, []int{}, []int{}
	if !rule.Same(a, b) || !rule.Same(b, a) {
		t.Errorf("Same(%+v, %+v) is false", a, b)
	}
}

// The rules of DOC.md.

func TestArgumentsAreLeft(t *testing.T) {
	for _, whole := range []api.Rule{ // the last two elements of each list are spare
		{
			ByDay:      []api.Weekday{nth(-1, 4), nth(0, 1), nth(1, 1), nth(2, 2), nth(9, 9), nth(3, 3)},
			ByMonthDay: []int{-1, 1, 2, 31, 77, 2},
			ByMonth:    []int{1, 2, 3, 12, 88, 3},
		},
		{ // out of order, and two alike
			ByDay:      []api.Weekday{nth(5, 6), nth(0, 1), nth(0, 1), nth(-1, 4), nth(9, 9), nth(3, 3)},
			ByMonthDay: []int{31, 1, 1, -1, 77, 2},
			ByMonth:    []int{12, 2, 2, 1, 88, 3},
		},
	} {
		was := apart(whole)
		for _, freq := range append(freqs(), 0) {
			r := each(freq)
			r.ByDay, r.ByMonthDay, r.ByMonth = whole.ByDay[:4], whole.ByMonthDay[:4], whole.ByMonth[:4]
			rule.Is(r)
			rule.Same(r, r)
			rule.Same(r, rule.Once())
			for day := range 400 {
				rule.Fits(r, day)
			}
			if !reflect.DeepEqual(whole, was) {
				t.Errorf("the lists of %+v were changed to %+v", was, whole)
			}
		}
	}
}

func TestArgumentsAreNotKept(t *testing.T) {
	r := on(api.Monthly, nth(0, 1))
	if !rule.Is(r) || rule.Fits(r, 0) {
		t.Fatal("the rule of each Tuesday is wrong")
	}
	r.ByDay[0] = nth(0, 5) // day 0 is a Saturday
	if !rule.Is(r) || !rule.Fits(r, 0) {
		t.Error("a rule is judged by what it was before")
	}
	r.ByDay[0] = nth(0, 7)
	if rule.Is(r) || rule.Fits(r, 0) {
		t.Error("what is no rule any more is taken for one")
	}
}

func TestOnceIsNewEachTime(t *testing.T) {
	r := rule.Once()
	r.Freq, r.Until = 9, 9
	r.ByDay = append(r.ByDay, nth(1, 1))
	if !rule.Same(rule.Once(), api.Rule{Until: -1}) {
		t.Errorf("Once() = %+v after a change of an earlier result", rule.Once())
	}
}

func TestLongListsAreNoRule(t *testing.T) {
	const n = 1 << 16
	byDay, byMonthDay, byMonth := make([]api.Weekday, n), make([]int, n), make([]int, n)
	for i := range n {
		byDay[i], byMonthDay[i], byMonth[i] = nth(i, i), i, i
	}
	for _, freq := range freqs() {
		expectIs(t, on(freq, byDay...), false)
		expectIs(t, days(freq, byMonthDay...), false)
		expectIs(t, months(freq, byMonth...), false)
	}
}
