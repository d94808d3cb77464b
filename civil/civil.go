// Package civil: days, minutes: see doc/01-civil.md.
package civil

import (
	"hostelry/api"
)

// Leap reports whether a year has a 29th of February.
func Leap(year int) bool {
	return year%4 == 0 && year%100 != 0 || year%400 == 0
}

// Length gives the number of days of a month, 0 if there is no such month.
func Length(year, month int) int {
	switch month {
	case 1, 3, 5, 7, 8, 10, 12:
		return 31
	case 4, 6, 9, 11:
		return 30
	case 2:
		if Leap(year) {
			return 29
		}
		return 28
	}
	return 0
}

// Is reports whether there is such a date, in any year.
func Is(d api.Date) bool {
	return d.Day >= 1 && d.Day <= Length(d.Year, d.Month)
}

// Number gives the number of the day of a date.
func Number(d api.Date) (int, api.Errno) {
	if !Is(d) {
		return 0, api.ErrDate
	}
	if d.Year < firstYear || d.Year > lastYear {
		return 0, api.ErrRange
	}
	return int(dayOf(d).number), api.OK
}

// Date gives the date of a day.
func Date(day int) (api.Date, api.Errno) {
	d := dayNumber{number(day)}
	if !d.exists() {
		return api.Date{}, api.ErrRange
	}
	return d.date(), api.OK
}

// Weekday gives the weekday of a day, from 0 (Monday) to 6, before day 0 too.
func Weekday(day int) int {
	return dayNumber{number(day)}.weekday()
}

// Minute gives the number of the minute at a time of a date.
func Minute(d api.Date, hour, minute int) (int, api.Errno) {
	day, err := Number(d)
	if err != api.OK {
		return 0, err
	}
	if hour < 0 || hour > 23 || minute < 0 || minute > 59 {
		return 0, api.ErrDate
	}
	return int(minuteOf(day, hour, minute).number), api.OK
}

// Clock gives the date, the hour and the minute of a minute.
func Clock(m int) (api.Date, int, int, api.Errno) {
	n := minuteNumber{number(m)}
	if !n.exists() {
		return api.Date{}, 0, 0, api.ErrRange
	}
	day, hour, minute := n.clock()
	return day.date(), hour, minute, api.OK
}
