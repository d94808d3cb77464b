package rule

import (
	"hostelry/api"
	"hostelry/civil"
)

const weekDays = 7

// place is where a day lies in its month: among all of its days, and among
// those of the same weekday. Both are counted from 1 on upwards, and from the
// end of the month from -1 on downwards.
type place struct {
	month                     int
	day, dayFromEnd           int
	weekday                   int
	position, positionFromEnd int
}

// placeOf gives the place of a day, and whether there is such a day.
func placeOf(day int) (place, bool) {
	d, err := civil.Date(day)
	if err != api.OK {
		return place{}, false
	}
	before := d.Day - 1
	after := civil.Length(d.Year, d.Month) - d.Day
	return place{
		month:           d.Month,
		day:             before + 1,
		dayFromEnd:      -(after + 1),
		weekday:         civil.Weekday(day),
		position:        before/weekDays + 1,
		positionFromEnd: -(after/weekDays + 1),
	}, true
}

func (p place) inMonth(month int) bool {
	return month == p.month
}

func (p place) onMonthDay(n int) bool {
	return n == p.day || n == p.dayFromEnd
}

func (p place) onWeekday(w api.Weekday) bool {
	return w.Day == p.weekday && (w.N == 0 || w.N == p.position || w.N == p.positionFromEnd)
}
