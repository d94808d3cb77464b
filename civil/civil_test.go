package civil_test

import (
	"math"
	"testing"
	"time"

	"hostelry/api"
	"hostelry/civil"
)

// date is short for the literals of the tables.
func date(year, month, day int) api.Date {
	return api.Date{Year: year, Month: month, Day: day}
}

// far are arguments beyond everything that the chapter names.
func far() []int {
	return []int{math.MinInt, math.MinInt + 1, math.MinInt32, math.MaxInt32, math.MaxInt - 1, math.MaxInt}
}

// P1.1

func TestLeap(t *testing.T) {
	for _, year := range []int{2000, 2004, 2096, 1996, 1600, 2400, 400, 0, -4, -400} {
		if !civil.Leap(year) {
			t.Errorf("Leap(%d) is false", year)
		}
	}
	for _, year := range []int{2001, 2002, 2003, 2099, 2100, 1900, 100, -1, -100, -200, -300, math.MaxInt} {
		if civil.Leap(year) {
			t.Errorf("Leap(%d) is true", year)
		}
	}
}

func TestLengthIsThatOfTheMonth(t *testing.T) {
	for _, year := range []int{-400, -4, -1, 0, 1900, 1999, 2000, 2001, 2004, 2099, 2100} {
		for month := 1; month <= 12; month++ {
			want := time.Date(year, time.Month(month)+1, 0, 0, 0, 0, 0, time.UTC).Day()
			if got := civil.Length(year, month); got != want {
				t.Errorf("Length(%d, %d) = %d, want %d", year, month, got, want)
			}
		}
	}
}

func TestLengthOfNoMonth(t *testing.T) {
	for _, month := range append(far(), -1, 0, 13, 14) {
		if got := civil.Length(2000, month); got != 0 {
			t.Errorf("Length(2000, %d) = %d", month, got)
		}
	}
	for _, year := range far() {
		if got := civil.Length(year, 1); got != 31 {
			t.Errorf("Length(%d, 1) = %d", year, got)
		}
	}
}

func TestIs(t *testing.T) {
	for _, year := range append(far(), -400, -1, 0, 1900, 1999, 2000, 2001, 2099, 2100) {
		for month := -1; month <= 14; month++ {
			for day := -1; day <= 33; day++ {
				want := month >= 1 && month <= 12 && day >= 1 && day <= civil.Length(year, month)
				if got := civil.Is(date(year, month, day)); got != want {
					t.Errorf("Is(%d-%d-%d) = %v", year, month, day, got)
				}
			}
		}
	}
	for _, n := range far() {
		if civil.Is(date(2000, n, 1)) || civil.Is(date(2000, 1, n)) {
			t.Errorf("Is takes %d for a month or a day", n)
		}
	}
}

func TestDaysAreThoseOfTheCalendar(t *testing.T) {
	for day := range api.MaxDay {
		want := time.Date(2000, time.January, 1+day, 0, 0, 0, 0, time.UTC)
		got, err := civil.Date(day)
		if got != date(want.Year(), int(want.Month()), want.Day()) || err != api.OK {
			t.Fatalf("Date(%d) = %v, %v", day, got, err)
		}
		if n, err := civil.Number(got); n != day || err != api.OK {
			t.Fatalf("Number(%v) = %d, %v, want %d", got, n, err, day)
		}
		if w, want := civil.Weekday(day), (int(want.Weekday())+6)%7; w != want {
			t.Fatalf("Weekday(%d) = %d, want %d", day, w, want)
		}
	}
}

func TestNumber(t *testing.T) {
	for _, c := range []struct {
		date api.Date
		want int
		err  api.Errno
	}{
		{date(2000, 1, 1), 0, api.OK},
		{date(2000, 2, 29), 59, api.OK},
		{date(2001, 1, 1), 366, api.OK},
		{date(2099, 12, 31), api.MaxDay - 1, api.OK},
		{date(1999, 12, 31), 0, api.ErrRange},
		{date(2100, 1, 1), 0, api.ErrRange},
		{date(0, 2, 29), 0, api.ErrRange},
		{date(math.MinInt, 1, 1), 0, api.ErrRange},
		{date(math.MaxInt, 12, 31), 0, api.ErrRange},
		{date(2001, 2, 29), 0, api.ErrDate},
		{date(2000, 4, 31), 0, api.ErrDate},
		{date(2000, 1, 0), 0, api.ErrDate},
		{date(2000, 1, -1), 0, api.ErrDate},
		{date(2000, 0, 1), 0, api.ErrDate},
		{date(2000, 13, 1), 0, api.ErrDate},
		{date(2000, math.MaxInt, 1), 0, api.ErrDate},
		{date(2000, 1, math.MaxInt), 0, api.ErrDate},
		{api.Date{}, 0, api.ErrDate},
		{date(2100, 2, 29), 0, api.ErrDate}, // both errors: the first one is told
		{date(1999, 13, 1), 0, api.ErrDate},
		{date(math.MaxInt, 0, 0), 0, api.ErrDate},
	} {
		if got, err := civil.Number(c.date); got != c.want || err != c.err {
			t.Errorf("Number(%v) = %d, %v, want %d, %v", c.date, got, err, c.want, c.err)
		}
	}
}

func TestDateOfNoDay(t *testing.T) {
	for _, day := range append(far(), -1, -366, api.MaxDay, api.MaxDay+1) {
		if got, err := civil.Date(day); got != (api.Date{}) || err != api.ErrRange {
			t.Errorf("Date(%d) = %v, %v", day, got, err)
		}
	}
}

func TestWeekdayGoesOnInBothDirections(t *testing.T) {
	for day, want := range map[int]int{0: 5, 1: 6, 2: 0, -1: 4, -5: 0, -6: 6, -7: 5} {
		if got := civil.Weekday(day); got != want {
			t.Errorf("Weekday(%d) = %d, want %d", day, got, want)
		}
	}
	for _, start := range []int{math.MinInt, -1000, api.MaxDay - 10, math.MaxInt - 20} {
		for day := start; day < start+20; day++ {
			here, next := civil.Weekday(day), civil.Weekday(day+1)
			if here < 0 || here > 6 || next != (here+1)%7 {
				t.Fatalf("weekday %d is %d, and the next one is %d", day, here, next)
			}
		}
	}
	if got, want := civil.Weekday(math.MaxInt), (5+math.MaxInt%7)%7; got != want {
		t.Errorf("Weekday(MaxInt) = %d, want %d", got, want)
	}
	if got, want := civil.Weekday(-math.MaxInt), (5+7-math.MaxInt%7)%7; got != want {
		t.Errorf("Weekday(-MaxInt) = %d, want %d", got, want)
	}
}

// P1.2

func TestMinute(t *testing.T) {
	second := date(2000, 1, 2)
	for _, c := range []struct {
		date         api.Date
		hour, minute int
		want         int
		err          api.Errno
	}{
		{date(2000, 1, 1), 0, 0, 0, api.OK},
		{second, 0, 0, api.Day, api.OK},
		{second, 10, 30, 2070, api.OK},
		{second, 23, 59, 2*api.Day - 1, api.OK},
		{date(2099, 12, 31), 23, 59, api.MaxMinute - 1, api.OK},
		{second, 24, 0, 0, api.ErrDate},
		{second, -1, 0, 0, api.ErrDate},
		{second, 0, 60, 0, api.ErrDate},
		{second, 0, -1, 0, api.ErrDate},
		{second, math.MaxInt, 0, 0, api.ErrDate},
		{second, math.MinInt, 0, 0, api.ErrDate},
		{second, 0, math.MaxInt, 0, api.ErrDate},
		{second, 0, math.MinInt, 0, api.ErrDate},
		{date(2001, 2, 29), 0, 0, 0, api.ErrDate},
		{date(1999, 12, 31), 23, 59, 0, api.ErrRange},
		{date(2100, 1, 1), 0, 0, 0, api.ErrRange},
		{date(2100, 1, 1), 24, 60, 0, api.ErrRange}, // the errors of Number come first
	} {
		if got, err := civil.Minute(c.date, c.hour, c.minute); got != c.want || err != c.err {
			t.Errorf("Minute(%v, %d, %d) = %d, %v, want %d, %v", c.date, c.hour, c.minute, got, err, c.want, c.err)
		}
	}
}

func TestEachMinuteOfADay(t *testing.T) {
	for _, day := range []int{0, 59, 366, api.MaxDay - 1} {
		for rest := range api.Day {
			checkClock(t, day*api.Day+rest, day, rest/60, rest%60)
		}
	}
}

func TestAMinuteOfEachDay(t *testing.T) {
	for day := range api.MaxDay {
		rest := day * 7 % api.Day
		checkClock(t, day*api.Day+rest, day, rest/60, rest%60)
	}
}

func checkClock(t *testing.T, m, day, hour, minute int) {
	t.Helper()
	want, _ := civil.Date(day)
	d, h, n, err := civil.Clock(m)
	if d != want || h != hour || n != minute || err != api.OK {
		t.Fatalf("Clock(%d) = %v, %d, %d, %v", m, d, h, n, err)
	}
	if got, err := civil.Minute(d, h, n); got != m || err != api.OK {
		t.Fatalf("Minute(%v, %d, %d) = %d, %v, want %d", d, h, n, got, err, m)
	}
}

func TestClockOfNoMinute(t *testing.T) {
	for _, m := range append(far(), -1, -api.Day, api.MaxMinute, api.MaxMinute+1) {
		if d, h, n, err := civil.Clock(m); d != (api.Date{}) || h != 0 || n != 0 || err != api.ErrRange {
			t.Errorf("Clock(%d) = %v, %d, %d, %v", m, d, h, n, err)
		}
	}
}
