package rtext_test

import (
	"math"
	"slices"
	"strconv"
	"testing"

	"hostelry/api"
	"hostelry/rtext"
	"hostelry/rule"
)

// P7.1: Day

func TestDay(t *testing.T) {
	for day, word := range []string{"MO", "TU", "WE", "TH", "FR", "SA", "SU"} {
		for n, number := range map[int]string{
			-53: "-53", -10: "-10", -6: "-6", -5: "-5", -1: "-1", 0: "", 1: "1", 5: "5", 6: "6", 10: "10", 53: "53",
			math.MinInt64: "-9223372036854775808", math.MaxInt64: "9223372036854775807",
			math.MinInt32: "-2147483648", math.MaxInt32: "2147483647",
		} {
			if got := rtext.Day(nth(n, day)); got != number+word {
				t.Errorf("Day(%d, %d) = %q, want %q", n, day, got, number+word)
			}
		}
	}
}

func TestDayThatThereIsNot(t *testing.T) {
	for _, day := range append(far(), -7, -2, -1, 7, 8, 13, 14, 256, 1<<32) {
		for _, n := range append(far(), -5, -1, 0, 1, 5) {
			if got := rtext.Day(nth(n, day)); got != "" {
				t.Errorf("Day(%d, %d) = %q", n, day, got)
			}
		}
	}
}

// P7.1: Print

func TestTheExampleOfTheChapter(t *testing.T) {
	text, r := "FREQ=WEEKLY;BYDAY=MO,WE", on(each(api.Weekly), nth(0, 0), nth(0, 2))
	expectPrint(t, r, text)
	expectRule(t, text, r)
}

func TestPrintOnce(t *testing.T) {
	expectPrint(t, rule.Once(), "")
	expectPrint(t, api.Rule{Until: -1, ByDay: []api.Weekday{}, ByMonthDay: []int{}, ByMonth: []int{}}, "")
}

func TestPrintWhatIsNoRule(t *testing.T) {
	r := each(api.Monthly)
	for _, r := range []api.Rule{
		{},
		{Every: 1, Until: -1},
		{Until: 0},
		{Until: -1, ByMonth: []int{1}},
		each(-1), each(5), each(math.MaxInt), each(math.MinInt),
		every(r, 0), every(r, -1), every(r, 101), every(r, math.MinInt),
		times(r, -1), times(r, api.MaxOcc+1),
		until(r, -2), until(r, api.MaxMinute),
		times(until(r, 7), 1),
		on(r, nth(6, 0)), on(r, nth(-6, 0)), on(r, nth(0, 7)), on(r, nth(0, -1)),
		on(r, nth(0, 1), nth(0, 0)), on(r, nth(1, 0), nth(1, 0)),
		on(each(api.Daily), nth(1, 0)), on(each(api.Weekly), nth(-1, 0)),
		at(r, 0), at(r, 32), at(r, -32), at(r, 1, 1), at(r, 2, 1),
		at(r, 1, 2, 3, 4, 5, 6, 7, 8, 9, 10, 11, 12, 13),
		at(each(api.Weekly), 1), at(each(api.Yearly), 1), on(each(api.Yearly), nth(0, 1)),
		in(r, 0), in(r, 13), in(r, -1), in(r, 2, 1), in(r, 1, 1),
	} {
		expectPrint(t, r, "")
	}
}

func TestPrintFreq(t *testing.T) {
	expectPrint(t, each(api.Daily), "FREQ=DAILY")
	expectPrint(t, each(api.Weekly), "FREQ=WEEKLY")
	expectPrint(t, each(api.Monthly), "FREQ=MONTHLY")
	expectPrint(t, each(api.Yearly), "FREQ=YEARLY")
}

func TestPrintEvery(t *testing.T) {
	expectPrint(t, every(each(api.Daily), 1), "FREQ=DAILY")
	for n := 2; n <= 100; n++ {
		expectPrint(t, every(each(api.Daily), n), "FREQ=DAILY;INTERVAL="+strconv.Itoa(n))
	}
}

func TestPrintCount(t *testing.T) {
	expectPrint(t, times(each(api.Weekly), 0), "FREQ=WEEKLY")
	for n := 1; n <= api.MaxOcc; n++ {
		expectPrint(t, times(each(api.Weekly), n), "FREQ=WEEKLY;COUNT="+strconv.Itoa(n))
	}
}

func TestPrintUntil(t *testing.T) {
	for m, text := range map[int]string{
		-1:         "",
		0:          ";UNTIL=20000101T000000",
		1:          ";UNTIL=20000101T000100",
		2070:       ";UNTIL=20000102T103000",
		lastMinute: ";UNTIL=20991231T235900",
	} {
		expectPrint(t, until(each(api.Monthly), m), "FREQ=MONTHLY"+text)
	}
}

func TestPrintLists(t *testing.T) {
	r := each(api.Monthly)
	for _, c := range []struct {
		r    api.Rule
		text string
	}{
		{on(at(in(r, []int{}...), []int{}...), []api.Weekday{}...), ""},
		{in(r, 1), ";BYMONTH=1"},
		{in(r, 12), ";BYMONTH=12"},
		{in(r, 1, 12), ";BYMONTH=1,12"},
		{in(r, 1, 2, 3, 4, 5, 6, 7, 8, 9, 10, 11, 12), ";BYMONTH=1,2,3,4,5,6,7,8,9,10,11,12"},
		{at(r, 1), ";BYMONTHDAY=1"},
		{at(r, 31), ";BYMONTHDAY=31"},
		{at(r, -1), ";BYMONTHDAY=-1"},
		{at(r, -31), ";BYMONTHDAY=-31"},
		{at(r, -31, -1, 1, 31), ";BYMONTHDAY=-31,-1,1,31"},
		{at(r, -12, -11, -10, -9, -8, -7, -6, -5, -4, -3, -2, -1), ";BYMONTHDAY=-12,-11,-10,-9,-8,-7,-6,-5,-4,-3,-2,-1"},
		{on(r, nth(0, 0)), ";BYDAY=MO"},
		{on(r, nth(0, 6)), ";BYDAY=SU"},
		{on(r, nth(5, 6)), ";BYDAY=5SU"},
		{on(r, nth(-5, 0)), ";BYDAY=-5MO"},
		{on(r, nth(-1, 4)), ";BYDAY=-1FR"},
		{on(r, nth(-1, 4), nth(0, 0), nth(1, 3)), ";BYDAY=-1FR,MO,1TH"},
		{
			on(r, nth(-5, 0), nth(-4, 1), nth(-3, 2), nth(-2, 3), nth(-1, 4), nth(0, 5), nth(0, 6), nth(1, 0), nth(2, 1), nth(3, 2), nth(4, 3), nth(5, 4)),
			";BYDAY=-5MO,-4TU,-3WE,-2TH,-1FR,SA,SU,1MO,2TU,3WE,4TH,5FR",
		},
	} {
		expectPrint(t, c.r, "FREQ=MONTHLY"+c.text)
	}
}

func TestPrintEachElement(t *testing.T) {
	for month := 1; month <= 12; month++ {
		expectPrint(t, in(each(api.Daily), month), "FREQ=DAILY;BYMONTH="+strconv.Itoa(month))
	}
	for day := -31; day <= 31; day++ {
		if day != 0 {
			expectPrint(t, at(each(api.Daily), day), "FREQ=DAILY;BYMONTHDAY="+strconv.Itoa(day))
		}
	}
	for n := -5; n <= 5; n++ {
		for day := range 7 {
			expectPrint(t, on(each(api.Monthly), nth(n, day)), "FREQ=MONTHLY;BYDAY="+rtext.Day(nth(n, day)))
		}
	}
}

func TestPrintAllParts(t *testing.T) {
	expectPrint(t, full(), fullText)
	r := on(at(in(times(every(each(api.Monthly), 2), 9), 3), 7), nth(0, 1))
	expectPrint(t, r, "FREQ=MONTHLY;INTERVAL=2;COUNT=9;BYMONTH=3;BYMONTHDAY=7;BYDAY=TU")
	r.Freq = api.Yearly
	expectPrint(t, r, "FREQ=YEARLY;INTERVAL=2;COUNT=9;BYMONTH=3;BYMONTHDAY=7;BYDAY=TU")
	expectPrint(t, in(times(every(each(api.Yearly), 99), 1), 2, 11), "FREQ=YEARLY;INTERVAL=99;COUNT=1;BYMONTH=2,11")
	expectPrint(t, on(until(every(each(api.Weekly), 3), 0), nth(0, 5), nth(0, 6)), "FREQ=WEEKLY;INTERVAL=3;UNTIL=20000101T000000;BYDAY=SA,SU")
}

func TestPrintLeavesItsArgument(t *testing.T) {
	weekdays := []api.Weekday{nth(-1, 4), nth(0, 1), nth(9, 9), nth(8, 8)}
	monthDays, months := []int{-1, 7, 99, 98}, []int{2, 5, 99, 98}
	r := on(at(in(each(api.Monthly), months[:2]...), monthDays[:2]...), weekdays[:2]...)
	expectPrint(t, r, "FREQ=MONTHLY;BYMONTH=2,5;BYMONTHDAY=-1,7;BYDAY=-1FR,TU")
	expectPrint(t, on(r, weekdays...), "")
	if !slices.Equal(weekdays, []api.Weekday{nth(-1, 4), nth(0, 1), nth(9, 9), nth(8, 8)}) ||
		!slices.Equal(monthDays, []int{-1, 7, 99, 98}) || !slices.Equal(months, []int{2, 5, 99, 98}) {
		t.Error("the lists of the rule are changed")
	}
}

func TestPrintDoesNotKeepItsArgument(t *testing.T) {
	r := in(each(api.Monthly), 2, 5)
	text := rtext.Print(r)
	r.ByMonth[0] = 4
	if text != "FREQ=MONTHLY;BYMONTH=2,5" {
		t.Errorf("a change of the argument is seen in the text %q", text)
	}
	expectPrint(t, r, "FREQ=MONTHLY;BYMONTH=4,5")
}
