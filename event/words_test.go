package event_test

import (
	"regexp"
	"slices"
	"strconv"
	"strings"
	"time"

	"hostelry/api"
	"hostelry/rtext"
	"hostelry/rule"
)

// What follows is the chapter's words, as patterns and by Go's own calendar.

var (
	uidForm      = regexp.MustCompile(`\A[A-Za-z0-9-]{1,12}\z`)
	textForm     = regexp.MustCompile(`\A[ -~\n]{0,40}\z`)
	lineForm     = regexp.MustCompile(`(?s)\A([A-Za-z0-9-]{1,20}):(.*)\z`)
	vEventForm   = regexp.MustCompile(`\A[Vv][Ee][Vv][Ee][Nn][Tt]\z`)
	durationForm = regexp.MustCompile(`\APT([1-9][0-9]{0,4})M\z`)
	roomsForm    = regexp.MustCompile(`\A[0-7](,[0-7]){0,3}\z`)
	minuteForm   = regexp.MustCompile(`\A[0-9]{8}T[0-9]{4}00\z`)
	escapedForm  = regexp.MustCompile(`(?s)\A([^\\;,\n]|\\[\\;,nN])*\z`)
)

func isMinuteByWords(m int) bool { return m >= 0 && m <= lastMinute }

// isListByWords reports whether the numbers are sorted, with no two alike.
func isListByWords(least, most int, such func(n int) bool, l []int) bool {
	sorted := slices.Compact(slices.Sorted(slices.Values(l)))
	return len(l) >= least && len(l) <= most && slices.Equal(sorted, l) &&
		!slices.ContainsFunc(l, func(n int) bool { return !such(n) })
}

func isByWords(e api.Event) bool {
	most := api.MaxList
	if rule.Same(e.Rule, rule.Once()) {
		most = 0
	}
	isRoom := func(n int) bool { return n >= 0 && n < 8 }
	return uidForm.MatchString(e.UID) && textForm.MatchString(e.Text) && isMinuteByWords(e.Start) && e.Long >= 1 && e.Long <= 10080 &&
		isListByWords(1, 4, isRoom, e.Rooms) && rule.Is(e.Rule) && isListByWords(0, most, isMinuteByWords, e.Except)
}

// minuteByWords reads a minute with Go's own calendar, which tells a day too great for its month.
func minuteByWords(s string) (int, bool) {
	if !minuteForm.MatchString(s) {
		return 0, false
	}
	at, err := time.Parse("20060102T150405", s)
	if err != nil || at.Year() < 2000 || at.Year() > 2099 {
		return 0, false
	}
	return int(at.Sub(time.Date(2000, time.January, 1, 0, 0, 0, 0, time.UTC)) / time.Minute), true
}

// setByWords gives the event the value of a line, and reports whether it is accepted by itself.
func setByWords(e *api.Event, name, value string) bool {
	ok := true
	switch name {
	case "UID":
		e.UID, ok = value, uidForm.MatchString(value)
	case "DTSTART":
		e.Start, ok = minuteByWords(value)
	case "DURATION":
		m := durationForm.FindStringSubmatch(value)
		if m == nil {
			return false
		}
		e.Long, _ = strconv.Atoi(m[1])
		ok = e.Long <= 10080
	case "RRULE":
		r, err := rtext.Parse(value)
		e.Rule, ok = r, err == api.OK
	case "EXDATE":
		e.Except = nil
		for _, text := range strings.Split(value, ",") {
			m, isMinute := minuteByWords(text)
			e.Except, ok = append(e.Except, m), ok && isMinute
		}
		slices.Sort(e.Except)
		ok = ok && len(e.Except) <= 12 && len(slices.Compact(slices.Clone(e.Except))) == len(e.Except)
	case "X-ROOMS":
		if !roomsForm.MatchString(value) {
			return false
		}
		e.Rooms = nil
		for _, text := range strings.Split(value, ",") {
			e.Rooms = append(e.Rooms, int(text[0]-'0'))
		}
		slices.Sort(e.Rooms)
		ok = len(slices.Compact(slices.Clone(e.Rooms))) == len(e.Rooms)
	case "SUMMARY":
		e.Text = strings.NewReplacer(`\\`, `\`, `\;`, `;`, `\,`, `,`, `\n`, "\n", `\N`, "\n").Replace(value)
		ok = escapedForm.MatchString(value) && textForm.MatchString(e.Text)
	}
	return ok
}

// readByWords tells for each line whether it can be accepted, until one can't or ends the event.
func readByWords(l []string) (api.Event, int, api.Errno) {
	e, count := api.Event{Rule: rule.Once()}, map[string]int{}
	once := []string{"UID", "DTSTART", "DURATION", "RRULE", "EXDATE", "X-ROOMS", "SUMMARY"}
	for i, text := range l {
		m := lineForm.FindStringSubmatch(text)
		if m == nil {
			return api.Event{}, i, api.ErrForm
		}
		name, value := strings.ToUpper(m[1]), m[2]
		count[name]++
		wrong := slices.Contains(once, name) && count[name] > 1 ||
			(name == "BEGIN" || name == "END") && !vEventForm.MatchString(value) ||
			(name == "BEGIN") != (i == 0) ||
			!setByWords(&e, name, value)
		if !wrong && name == "END" {
			if count["UID"] > 0 && count["DTSTART"] > 0 && count["DURATION"] > 0 && count["X-ROOMS"] > 0 && isByWords(e) {
				return e, i + 1, api.OK
			}
			wrong = true
		}
		if wrong {
			return api.Event{}, i, api.ErrForm
		}
	}
	return api.Event{}, len(l), api.ErrForm
}
