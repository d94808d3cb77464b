package expand_test

import (
	"math/rand"
	"slices"
	"testing"
	"time"

	"hostelry/api"
	"hostelry/expand"
	"hostelry/rule"
)

// P6.3

// today is a day with the units of time that it lies in, counted on from some one.
type today struct {
	year, month, week, day       int
	monthDay, fromEnd, weekday   int
	monthOfYear, nth, nthFromEnd int
}

// allDays gives them by Go's own calendar, going from day to day.
func allDays() []today {
	out := make([]today, api.MaxDay)
	first := time.Date(2000, time.January, 1, 0, 0, 0, 0, time.UTC)
	week := 0
	for i := range out {
		d := first.AddDate(0, 0, i)
		if d.Weekday() == time.Monday {
			week++
		}
		length := time.Date(d.Year(), d.Month()+1, 0, 0, 0, 0, 0, time.UTC).Day()
		out[i] = today{
			year: d.Year(), month: d.Year()*12 + int(d.Month()), week: week, day: i,
			monthDay: d.Day(), fromEnd: d.Day() - length - 1, weekday: (int(d.Weekday()) + 6) % 7,
			monthOfYear: int(d.Month()), nth: (d.Day()-1)/7 + 1, nthFromEnd: -(length-d.Day())/7 - 1,
		}
	}
	return out
}

// unit gives the number of the day's unit of this frequency.
func (d today) unit(freq int) int {
	return [...]int{0, d.day, d.week, d.month, d.year}[freq]
}

// satisfies tells whether the day is one of the lists', as far as they say something.
func (d today) satisfies(r api.Rule) bool {
	month, monthDay, day := len(r.ByMonth) == 0, len(r.ByMonthDay) == 0, len(r.ByDay) == 0
	for _, m := range r.ByMonth {
		month = month || m == d.monthOfYear
	}
	for _, n := range r.ByMonthDay {
		monthDay = monthDay || n == d.monthDay || n == d.fromEnd
	}
	for _, w := range r.ByDay {
		n := w.N == 0 || w.N == d.nth || w.N == d.nthFromEnd
		day = day || n && w.Day == d.weekday
	}
	return month && monthDay && day
}

// isLike tells whether the day has in common with start what the lists leave open.
func (d today) isLike(start today, r api.Rule) bool {
	open := len(r.ByDay) == 0 && len(r.ByMonthDay) == 0
	switch r.Freq {
	case api.Weekly:
		return len(r.ByDay) > 0 || d.weekday == start.weekday
	case api.Monthly:
		return !open || d.monthDay == start.monthDay
	case api.Yearly:
		return !open || d.monthDay == start.monthDay && (len(r.ByMonth) > 0 || d.monthOfYear == start.monthOfYear)
	}
	return true
}

// startsByWords gives by the words of the chapters what Starts must answer.
func startsByWords(all []today, r api.Rule, start int, except []int) ([]int, api.Errno) {
	from := all[start/api.Day]
	var l []int
	for _, d := range all[start/api.Day:] {
		m := d.day*api.Day + start%api.Day
		n := d.unit(r.Freq) - from.unit(r.Freq)
		if n%r.Every == 0 && d.satisfies(r) && d.isLike(from, r) && (r.Until < 0 || m <= r.Until) {
			l = append(l, m)
		}
	}
	if r.Count > 0 {
		l = l[:min(r.Count, len(l))]
	}
	if len(l) > api.MaxOcc {
		return nil, api.ErrMany
	}
	l = slices.DeleteFunc(l, func(m int) bool { return slices.Contains(except, m) })
	if len(l) == 0 {
		return nil, api.ErrEmpty
	}
	return l, api.OK
}

// someRule gives a rule with all kinds of lists, that ends in all ways.
func someRule(rnd *rand.Rand, start int) api.Rule {
	for {
		r := each(1+rnd.Intn(4), []int{1, 1, 2, 1 + rnd.Intn(100)}[rnd.Intn(4)])
		switch rnd.Intn(4) {
		case 0:
			r.Count = 1 + rnd.Intn(api.MaxOcc)
		case 1:
			r.Until = max(0, min(lastMinute, start-api.Day+rnd.Intn([]int{40, 400, 4000, 40000}[rnd.Intn(4)])*api.Day+rnd.Intn(2)))
		case 2:
			r.Until = rnd.Intn(api.MaxMinute)
		}
		if rnd.Intn(3) == 0 {
			for range 1 + rnd.Intn(4) {
				r.ByMonth = append(r.ByMonth, 1+rnd.Intn(12))
			}
			slices.Sort(r.ByMonth)
			r.ByMonth = slices.Compact(r.ByMonth)
		}
		if rnd.Intn(3) == 0 {
			for range 1 + rnd.Intn(6) {
				r.ByMonthDay = append(r.ByMonthDay, rnd.Intn(63)-31)
			}
			slices.Sort(r.ByMonthDay)
			r.ByMonthDay = slices.Compact(r.ByMonthDay)
		}
		if rnd.Intn(3) == 0 {
			n := rnd.Intn(2) * (rnd.Intn(11) - 5)
			for day := rnd.Intn(3); day < 7; day += 1 + rnd.Intn(4) {
				r.ByDay = append(r.ByDay, nth(n, day))
			}
		}
		if rule.Is(r) {
			return r
		}
	}
}

// someExcept gives some of the minutes, some twice, and some others.
func someExcept(rnd *rand.Rand, start int, l []int) []int {
	var out []int
	for range rnd.Intn(5) {
		out = append(out, start+rnd.Intn(1000)*api.Day+rnd.Intn(2))
	}
	for _, m := range l {
		for range rnd.Intn(3) {
			out = append(out, m)
		}
	}
	rnd.Shuffle(len(out), func(i, k int) { out[i], out[k] = out[k], out[i] })
	return out
}

func TestManyRules(t *testing.T) {
	all := allDays()
	rnd := rand.New(rand.NewSource(6))
	count := map[api.Errno]int{}
	for n := range 1600 {
		start := []int{rnd.Intn(api.MaxMinute), rnd.Intn(40 * api.Day), lastMinute - rnd.Intn(4000*api.Day), lastMinute - rnd.Intn(60*api.Day)}[n%4]
		r := someRule(rnd, start)
		before, _ := startsByWords(all, r, start, nil)
		var except []int
		if rnd.Intn(2) == 0 {
			except = someExcept(rnd, start, before)
		}
		want, wantErr := startsByWords(all, r, start, except)
		count[wantErr]++
		got, err := expand.Starts(r, start, except)
		if err != wantErr || !slices.Equal(got, want) {
			t.Fatalf("Starts(%+v, %d, %v) = %v, %v, want %v, %v", r, start, except, texts(got), err, texts(want), wantErr)
		}
		long := 1 + rnd.Intn(api.MaxLong)
		wantSpans := spans(long, want...)
		if len(want) > 0 && want[len(want)-1]+long > api.MaxMinute {
			wantSpans, wantErr = nil, api.ErrRange
		}
		count[wantErr]++
		gotSpans, err := expand.Spans(r, start, long, except)
		if err != wantErr || !slices.Equal(gotSpans, wantSpans) {
			t.Fatalf("Spans(%+v, %d, %d, %v) = %v, %v, want %v, %v", r, start, long, except, gotSpans, err, wantSpans, wantErr)
		}
	}
	for _, err := range []api.Errno{api.OK, api.ErrMany, api.ErrEmpty, api.ErrRange} {
		if count[err] < 20 {
			t.Errorf("%v comes %d times: too few of one kind", err, count[err])
		}
	}
}

func TestStartsAreAscendingAndComeFromStartOn(t *testing.T) {
	rnd := rand.New(rand.NewSource(61))
	for range 2000 {
		start := rnd.Intn(api.MaxMinute)
		r := someRule(rnd, start)
		last := start - 1
		l, _ := expand.Starts(r, start, nil)
		for _, m := range l {
			if m <= last || m%api.Day != start%api.Day || r.Until >= 0 && m > r.Until {
				t.Fatalf("Starts(%+v, %d) has minute %d, after %d", r, start, m, last)
			}
			last = m
		}
		if r.Count > 0 && len(l) > r.Count {
			t.Fatalf("Starts(%+v, %d) gives %d minutes", r, start, len(l))
		}
	}
}

// The rules of DOC.md.

func TestNoListAndAnEmptyOneAreAlike(t *testing.T) {
	rules := []api.Rule{rule.Once()}
	for _, freq := range freqs() {
		rules = append(rules, times(each(freq, 1), 3), each(freq, 1))
	}
	for _, r := range rules {
		empty := r
		empty.ByDay, empty.ByMonthDay, empty.ByMonth = []api.Weekday{}, []int{}, []int{}
		a, err := expand.Spans(r, 600, 60, nil)
		if b, err2 := expand.Spans(empty, 600, 60, []int{}); err2 != err || !slices.Equal(a, b) {
			t.Errorf("%+v: %v, %v and %v, %v", r, a, err, b, err2)
		}
	}
}

func TestArgumentsAreLeft(t *testing.T) {
	weekdays := []api.Weekday{nth(-1, 4), nth(0, 1), nth(9, 9)}
	monthDays := []int{-1, 7, 14, 31, 99}
	months := []int{2, 5, 12, 99, 98}
	except := []int{4000, 600, 600, -1, 600 + 31*api.Day, 77, 76}
	r := in(at(on(each(api.Monthly, 1), weekdays[:2]...), monthDays[:4]...), months[:3]...)
	for start := range 200 {
		for _, a := range []api.Rule{r, times(r, 3), until(r, 900*api.Day), rule.Once(), times(each(api.Monthly, 1), 4)} {
			expand.Starts(a, start*10, except[:5])
			expand.Spans(a, start*10, 60, except[:5])
			expand.Spans(a, lastMinute, 60, except[:5])
		}
	}
	if !slices.Equal(weekdays, []api.Weekday{nth(-1, 4), nth(0, 1), nth(9, 9)}) ||
		!slices.Equal(monthDays, []int{-1, 7, 14, 31, 99}) || !slices.Equal(months, []int{2, 5, 12, 99, 98}) {
		t.Error("the lists of the rule are changed")
	}
	if !slices.Equal(except, []int{4000, 600, 600, -1, 600 + 31*api.Day, 77, 76}) {
		t.Error("except is changed")
	}
}

func TestResultsAreNewMemory(t *testing.T) {
	except := []int{600 + api.Day}
	for _, r := range []api.Rule{rule.Once(), times(each(api.Daily, 1), 5)} {
		a, _ := expand.Starts(r, 600, except)
		b, _ := expand.Starts(r, 600, except)
		want := slices.Clone(a)
		for i := range a[:cap(a)] {
			a[:cap(a)][i] = -7
		}
		if c, _ := expand.Starts(r, 600, except); !slices.Equal(b, want) || !slices.Equal(c, want) || except[0] != 600+api.Day {
			t.Errorf("%+v: what is written to one result is seen in another one", r)
		}
		s, _ := expand.Spans(r, 600, 60, except)
		u, _ := expand.Spans(r, 600, 60, except)
		for i := range s[:cap(s)] {
			s[:cap(s)][i] = api.Span{From: -7, To: -7}
		}
		if v, _ := expand.Spans(r, 600, 60, except); !slices.Equal(u, spans(60, want...)) || !slices.Equal(v, u) {
			t.Errorf("%+v: what is written to one result is seen in another one", r)
		}
	}
}

func TestArgumentsAreNotKept(t *testing.T) {
	r, except := times(on(each(api.Weekly, 1), nth(0, 1)), 2), []int{0}
	a, _ := expand.Starts(r, 0, except)
	want := slices.Clone(a)
	r.ByDay[0], except[0] = nth(0, 5), 7*api.Day // day 0 is a Saturday
	if !slices.Equal(a, want) {
		t.Error("a change of an argument is seen in a result")
	}
	expectStarts(t, r, 0, except, 0)
}

func TestManyExceptions(t *testing.T) {
	// They reach up to the day 728.
	want := append([]int{0}, inSteps(800*api.Day, 100*api.Day, 32)...)
	expectStarts(t, times(each(api.Daily, 100), api.MaxOcc), 0, inSteps(1, 1, 1<<20), want...)
}
