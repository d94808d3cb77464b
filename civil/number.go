package civil

import (
	"hostelry/api"
)

const (
	firstYear   = 2000
	lastYear    = 2099
	yearDays    = 365
	fourYears   = 4*yearDays + 1 // days
	weekDays    = 7
	firstDay    = 5  // the weekday of day 0, a Saturday
	hourMinutes = 60 // of an hour
)

// number counts days or minutes from 0 on; below 0 it goes on backwards.
type number int

// amongFirst reports whether the number is one of the first count ones.
func (n number) amongFirst(count int) bool {
	return n >= 0 && int(n) < count
}

// split gives how many whole parts of this size lie before the number, and
// how far into the next part it is. A plain % would go below 0 with the number.
func (n number) split(size int) (whole, rest int) {
	whole, rest = int(n)/size, int(n)%size
	if rest < 0 {
		return whole - 1, rest + size
	}
	return whole, rest
}

// dayNumber is the number of a day.
type dayNumber struct{ number }

// dayOf expects a date of the years from 2000 to 2099.
func dayOf(d api.Date) dayNumber {
	n := yearStart(d.Year) + d.Day - 1
	for month := 1; month < d.Month; month++ {
		n += Length(d.Year, month)
	}
	return dayNumber{number(n)}
}

func (d dayNumber) exists() bool {
	return d.amongFirst(api.MaxDay)
}

// date expects a day that exists.
func (d dayNumber) date() api.Date {
	// Of each four years from 2000 on the first is the leap year, so this
	// division comes to a new year exactly on its first day.
	year := firstYear + int(d.number)*4/fourYears
	rest := int(d.number) - yearStart(year)
	month := 1
	for rest >= Length(year, month) {
		rest -= Length(year, month)
		month++
	}
	return api.Date{Year: year, Month: month, Day: rest + 1}
}

func (d dayNumber) weekday() int {
	_, rest := d.split(weekDays)
	return (firstDay + rest) % weekDays
}

// yearStart gives the number of the first of January of a year from 2000 to 2099.
func yearStart(year int) int {
	past := year - firstYear
	leaps := (past + 3) / 4 // 2000 is one itself, and no year up to 2099 is left out
	return past*yearDays + leaps
}

// minuteNumber is the number of a minute.
type minuteNumber struct{ number }

// minuteOf expects a day that exists and a time of the clock.
func minuteOf(day, hours, minutes int) minuteNumber {
	return minuteNumber{number(day*api.Day + hours*hourMinutes + minutes)}
}

func (m minuteNumber) exists() bool {
	return m.amongFirst(api.MaxMinute)
}

func (m minuteNumber) clock() (day dayNumber, hours, minutes int) {
	days, rest := m.split(api.Day)
	return dayNumber{number(days)}, rest / hourMinutes, rest % hourMinutes
}
