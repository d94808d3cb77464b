package event

import (
	"slices"
	"strconv"
	"strings"

	"hostelry/api"
	"hostelry/civil"
	"hostelry/fold"
	"hostelry/line"
	"hostelry/rtext"
	"hostelry/rule"
)

// reading is an event of which some lines have been read.
type reading struct {
	parts
	names []string // of these lines, but for those that are ignored
}

// read gives the parts of the event that the lines begin with, and the number
// of its lines; or the index of the first line that can't be accepted, and false.
func read(lines ...string) (parts, int, bool) {
	r := reading{}
	r.rule = rule.Once() // what it is if nothing is said
	for i, l := range lines {
		name, value, err := line.Split(l)
		if err != api.OK || !r.take(name, value) {
			return parts{}, i, false
		}
		if name == endName {
			return r.parts, i + 1, true
		}
	}
	return parts{}, len(lines), false
}

// take goes on with the next line, and reports whether it can be accepted.
func (r *reading) take(name, value string) bool {
	first := len(r.names) == 0
	if first != (name == beginName) || slices.Contains(r.names, name) {
		return false
	}
	if !isKnown(name) {
		return true
	}
	r.names = append(r.names, name)
	return r.set(name, value)
}

// isKnown reports whether lines with this name are not ignored.
func isKnown(name string) bool {
	switch name {
	case beginName, uidName, startName, longName, ruleName, exceptName, roomsName, textName, endName:
		return true
	}
	return false
}

// set gives the event the value of a line, and reports whether it can have it.
func (r *reading) set(name, value string) (ok bool) {
	switch name {
	case beginName:
		ok = isEventWord(value)
	case uidName:
		r.uid, ok = value, isUID(value)
	case startName:
		r.start, ok = minute(value)
	case longName:
		r.long, ok = duration(value)
	case ruleName:
		r.rule, ok = recurrence(value)
	case exceptName:
		r.except, ok = sorted(minute, elementsOf(value, api.MaxList)...)
		ok = ok && areExcept(r.except...)
	case roomsName:
		r.rooms, ok = sorted(number, elementsOf(value, api.MaxRooms)...)
		ok = ok && areRooms(r.rooms...)
	case textName:
		r.text, ok = summary(value)
	case endName:
		ok = isEventWord(value) && r.has(uidName, startName, longName, roomsName) && r.valid()
	}
	return ok
}

// has reports whether there was a line with each of these names.
func (r *reading) has(names ...string) bool {
	for _, name := range names {
		if !slices.Contains(r.names, name) {
			return false
		}
	}
	return true
}

// isEventWord may leave the cases to EqualFold, since none of these letters has
// a further form beyond ASCII.
func isEventWord(value string) bool {
	return strings.EqualFold(value, eventWord)
}

// elementsOf splits the value of a list, up to one element more than it may have.
func elementsOf(value string, most int) []string {
	return strings.SplitN(value, betweenElements, most+1)
}

// sorted gives the numbers that the texts are of, in ascending order, and whether each is one.
func sorted(number func(text string) (int, bool), texts ...string) ([]int, bool) {
	out := make([]int, 0, len(texts))
	for _, text := range texts {
		n, ok := number(text)
		if !ok {
			return nil, false
		}
		out = append(out, n)
	}
	slices.Sort(out)
	return out, true
}

// number reads a number that is written as Go writes it: Atoi alone would take
// a + and leading zeros too.
func number(text string) (int, bool) {
	n, err := strconv.Atoi(text)
	return n, err == nil && strconv.Itoa(n) == text
}

func minute(text string) (int, bool) {
	m, err := civil.Parse(text)
	return m, err == api.OK
}

func duration(value string) (int, bool) {
	after, begins := strings.CutPrefix(value, beforeLong)
	within, ends := strings.CutSuffix(after, afterLong)
	n, ok := number(within)
	return n, begins && ends && ok && isLong(n)
}

func recurrence(value string) (api.Rule, bool) {
	r, err := rtext.Parse(value)
	return r, err == api.OK
}

func summary(value string) (string, bool) {
	s, err := fold.Unescape(value)
	return s, err == api.OK && isText(s)
}
