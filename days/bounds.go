package days

import (
	"hostelry/api"
	"hostelry/civil"
)

const weekDays = 7

// bounds gives the first day of the period that is n days, weeks, months or
// years after that of start, and the day after its last one. They may lie
// beyond the days that there are.
func bounds(freq, start int, date api.Date, n int) (int, int) {
	switch freq {
	case api.Daily:
		return start + n, start + n + 1
	case api.Weekly:
		monday := start - civil.Weekday(start) + n*weekDays
		return monday, monday + weekDays
	case api.Monthly:
		return month(date.Year, date.Month+n)
	}
	return year(date.Year + n)
}

// month gives the bounds of a month; the months after December are those of
// the years after this one.
func month(year, month int) (int, int) {
	year, month = year+(month-1)/12, (month-1)%12+1
	first := firstOf(year, month)
	return first, first + civil.Length(year, month)
}

func year(year int) (int, int) {
	first := firstOf(year, 1)
	if civil.Leap(year) {
		return first, first + 366
	}
	return first, first + 365
}

// firstOf gives the first day of a month. No year here is before the first
// one, so that a month without days is one after all of them.
func firstOf(year, month int) int {
	day, err := civil.Number(api.Date{Year: year, Month: month, Day: 1})
	if err != api.OK {
		return api.MaxDay
	}
	return day
}
