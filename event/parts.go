package event

import (
	"slices"

	"hostelry/api"
	"hostelry/rule"
)

// parts are what an api.Event consists of, whether it is an event or not.
type parts struct {
	words
	times
	places
}

// words are those that tell one event from another.
type words struct{ uid, text string }

// times are when an event is for the first time, and when again.
type times struct {
	start, long int
	rule        api.Rule
	except      []int
}

type places struct{ rooms []int }

// partsOf gives the parts of e, which share its slices.
func partsOf(e api.Event) parts {
	return parts{
		words{uid: e.UID, text: e.Text},
		times{start: e.Start, long: e.Long, rule: e.Rule, except: e.Except},
		places{rooms: e.Rooms},
	}
}

// event gives what has these parts, but slices of its own.
func (p parts) event() api.Event {
	r := p.rule
	r.ByDay, r.ByMonthDay, r.ByMonth = own(r.ByDay...), own(r.ByMonthDay...), own(r.ByMonth...)
	return api.Event{
		UID:    p.uid,
		Text:   p.text,
		Start:  p.start,
		Long:   p.long,
		Rooms:  own(p.rooms...),
		Rule:   r,
		Except: own(p.except...),
	}
}

// own gives the same elements in memory of their own.
func own[E any](elements ...E) []E {
	return append([]E(nil), elements...)
}

func (p parts) same(other parts) bool {
	return p.words == other.words && p.sameTimes(other.times) && slices.Equal(p.rooms, other.rooms)
}

func (t times) sameTimes(other times) bool {
	return t.start == other.start && t.long == other.long &&
		rule.Same(t.rule, other.rule) && slices.Equal(t.except, other.except)
}

// valid reports whether the parts are those of an event.
func (p parts) valid() bool {
	return p.areWords() && p.areTimes() && areRooms(p.rooms...)
}

func (w words) areWords() bool {
	return isUID(w.uid) && isText(w.text)
}

// areTimes asks too what no time tells by itself: what never comes again can't be left out.
func (t times) areTimes() bool {
	return isMinute(t.start) && isLong(t.long) && rule.Is(t.rule) && areExcept(t.except...) &&
		(len(t.except) == 0 || !rule.Same(t.rule, rule.Once()))
}
