package rule

import (
	"hostelry/api"
)

const (
	maxEvery = 100
	endless  = -1 // the Until of a rule without a last minute
)

// parts are what an api.Rule consists of, whether it is a rule or not.
type parts struct {
	numbers
	lists
}

type numbers struct{ freq, every, count, until int }

func partsOf(r api.Rule) parts {
	return parts{
		numbers{freq: r.Freq, every: r.Every, count: r.Count, until: r.Until},
		lists{byDay: r.ByDay, byMonthDay: r.ByMonthDay, byMonth: r.ByMonth},
	}
}

func (p parts) same(other parts) bool {
	return p.numbers == other.numbers && p.equal(other.lists)
}

// recurs reports whether the parts are those of a rule other than Once.
func (p parts) recurs() bool {
	return p.inRange() && p.wellFormed() && p.suited()
}

// suited reports whether the frequency, one of the four, allows these lists.
func (p parts) suited() bool {
	switch p.freq {
	case api.Daily:
		return !p.hasPosition()
	case api.Weekly:
		return !p.hasPosition() && len(p.byMonthDay) == 0
	case api.Yearly:
		return len(p.byMonth) > 0 || len(p.byDay) == 0 && len(p.byMonthDay) == 0
	}
	return true
}

// inRange reports whether each number is one that a rule may have, and not two of them end it.
func (n numbers) inRange() bool {
	return between(api.Daily, n.freq, api.Yearly) &&
		between(1, n.every, maxEvery) &&
		between(0, n.count, api.MaxOcc) &&
		between(endless, n.until, api.MaxMinute-1) &&
		(n.count == 0 || n.until == endless)
}

func between(least, n, greatest int) bool {
	return least <= n && n <= greatest
}
