package cal

import (
	"strings"

	"hostelry/api"
	"hostelry/event"
	"hostelry/line"
)

// reading is a calendar of which some lines have been read.
type reading struct {
	events    []api.Event
	uids      uids // of these events
	versioned bool // whether its version has been told
}

// read gives the events of the calendar that has just these lines, and their
// number; or the index of the first line that can't be accepted, and false.
func read(lines ...string) ([]api.Event, int, bool) {
	if len(lines) == 0 || !isOfCalendar(beginName, lines[0]) {
		return nil, 0, false
	}
	r := reading{uids: uids{}}
	at := 1
	for at < len(lines) && !isOfCalendar(endName, lines[at]) {
		n, ok := r.take(lines[at:]...)
		at += n
		if !ok {
			return nil, at, false
		}
	}
	if at == len(lines) { // the end is missing
		return nil, at, false
	}
	if behind := at + 1; behind < len(lines) {
		return nil, behind, false
	}
	return r.events, len(lines), true
}

// isOfCalendar reports whether a line has this name, and the word of calendars
// as its value. It may leave the cases to EqualFold, since none of the letters
// of this word has a further form beyond ASCII.
func isOfCalendar(name, l string) bool {
	got, value, err := line.Split(l)
	return err == api.OK && got == name && strings.EqualFold(value, calendarWord)
}

// take goes on with the first of these lines, and with those that belong
// together with it. It gives their number; or the index of the first one that
// can't be accepted, and false.
func (r *reading) take(lines ...string) (int, bool) {
	name, value, err := line.Split(lines[0])
	if err != api.OK || name == endName || name == versionName && !r.takeVersion(value) {
		return 0, false
	}
	if name == beginName {
		return r.takeEvent(lines...)
	}
	return 1, true
}

// takeVersion reports whether a version can be told, and is that of calendars.
func (r *reading) takeVersion(value string) bool {
	first := !r.versioned
	r.versioned = true
	return first && value == version
}

// takeEvent goes on with the event that these lines begin with. If its UID is
// taken, its last line is the one that can't be accepted.
func (r *reading) takeEvent(lines ...string) (int, bool) {
	e, n, err := event.Read(lines)
	if err != api.OK {
		return n, false
	}
	if !r.uids.add(e.UID) {
		return n - 1, false
	}
	r.events = append(r.events, e)
	return n, true
}
