package cal_test

import (
	"fmt"
	"math/rand"
	"regexp"
	"slices"
	"strings"
	"testing"

	"hostelry/api"
	"hostelry/cal"
	"hostelry/event"
	"hostelry/fold"
)

// What follows is the chapter's words, as patterns.

var (
	beginForm   = regexp.MustCompile(`\A[Bb][Ee][Gg][Ii][Nn]:[Vv][Cc][Aa][Ll][Ee][Nn][Dd][Aa][Rr]\z`)
	endForm     = regexp.MustCompile(`\A[Ee][Nn][Dd]:[Vv][Cc][Aa][Ll][Ee][Nn][Dd][Aa][Rr]\z`)
	eventForm   = regexp.MustCompile(`\A[Bb][Ee][Gg][Ii][Nn]:[Vv][Ee][Vv][Ee][Nn][Tt]\z`)
	versionForm = regexp.MustCompile(`(?s)\A[Vv][Ee][Rr][Ss][Ii][Oo][Nn]:(.*)\z`)
	otherForm   = regexp.MustCompile(`(?s)\A[A-Za-z0-9-]{1,20}:.*\z`)
	partForm    = regexp.MustCompile(`(?s)\A([Bb][Ee][Gg][Ii][Nn]|[Ee][Nn][Dd]):.*\z`)
)

// printByWords gives each line of a calendar, and then folds and ends them all.
func printByWords(l []api.Event) (string, api.Errno) {
	lines := []string{"BEGIN:VCALENDAR", "VERSION:2.0"}
	for i, e := range l {
		if !event.Is(e) || slices.ContainsFunc(l[:i], func(other api.Event) bool { return other.UID == e.UID }) {
			return "", api.ErrForm
		}
		lines = append(lines, event.Lines(e)...)
	}
	lines = append(lines, "END:VCALENDAR")
	for i := range lines {
		lines[i] = fold.Fold(lines[i])
	}
	s := strings.Join(lines, "\r\n") + "\r\n"
	if len(s) > 8000 {
		return "", api.ErrLong
	}
	return s, api.OK
}

// parseByWords tells for each line outside of events whether it can be accepted, until one can't or ends the calendar.
func parseByWords(s string) ([]api.Event, int, api.Errno) {
	l := fold.Unfold(s)
	if len(s) > 8000 || len(l) > 200 {
		return nil, 0, api.ErrLong
	}
	var out []api.Event
	versions := 0
	for i := 0; i < len(l); i++ {
		version := versionForm.FindStringSubmatch(l[i])
		switch {
		case i == 0 && beginForm.MatchString(l[i]):
		case i == 0:
			return nil, i, api.ErrForm
		case endForm.MatchString(l[i]) && i == len(l)-1:
			return out, len(l), api.OK
		case endForm.MatchString(l[i]):
			return nil, i + 1, api.ErrForm
		case eventForm.MatchString(l[i]):
			e, n, err := event.Read(l[i:])
			if err != api.OK {
				return nil, i + n, api.ErrForm
			}
			i += n - 1 // its last line
			if slices.ContainsFunc(out, func(other api.Event) bool { return other.UID == e.UID }) {
				return nil, i, api.ErrForm
			}
			out = append(out, e)
		case partForm.MatchString(l[i]), !otherForm.MatchString(l[i]):
			return nil, i, api.ErrForm
		case version != nil:
			versions++
			if versions > 1 || version[1] != "2.0" {
				return nil, i, api.ErrForm
			}
		}
	}
	return nil, len(l), api.ErrForm
}

func expectByWords(t *testing.T, s string) api.Errno {
	t.Helper()
	want, index, wantErr := parseByWords(s)
	if got, n, err := cal.Parse(s); err != wantErr || n != index || !equal(got, want) {
		t.Fatalf("Parse(%s) = %s, %d, %v, want %s, %d, %v", brief(s), brief(got), n, err, brief(want), index, wantErr)
	}
	return wantErr
}

// pool are the parts of small calendars, some of them spoilt.
func pool() []string {
	return []string{
		"BEGIN:VCALENDAR\r\n", "end:vcalendar\r\n", "END:VCALENDAR", "VERSION:2.0\r\n", "version:1.0\r\n", "X:y\r\n", "\r\n", " ", "BEGIN:VEVENT\r\n", "END:VEVENT\r\n", "no line\r\n",
		text(hourLines("a")...), text(hourLines("b")...),
	}
}

func TestAllSmallCalendars(t *testing.T) {
	count := map[api.Errno]int{}
	var more func(s string, n int)
	more = func(s string, n int) {
		count[expectByWords(t, s)]++
		if n == 0 {
			return
		}
		for _, part := range pool() {
			more(s+part, n-1)
		}
	}
	more("", 3)
	more("Begin:VCALENDAR\r\n", 4)
	if count[api.OK] < 200 || count[api.ErrForm] < 5000 {
		t.Errorf("%v: too few of one kind", count)
	}
}

func TestParseByTheWordsOfTheChapter(t *testing.T) {
	rnd := rand.New(rand.NewSource(112))
	count := map[api.Errno]int{}
	for range 8000 {
		l := someLines(rnd)
		for range rnd.Intn(3) {
			l = changed(rnd, l)
		}
		s := text(l...)
		if rnd.Intn(3) == 0 {
			s = changedText(rnd, s)
		}
		count[expectByWords(t, s)]++
	}
	if count[api.OK] < 1000 || count[api.ErrForm] < 1000 || count[api.ErrLong] < 100 {
		t.Errorf("%v: too few of one kind", count)
	}
}

// someEvents gives up to so many, mostly with UIDs of their own.
func someEvents(rnd *rand.Rand, most int) []api.Event {
	var l []api.Event
	for range rnd.Intn(most + 1) {
		uid := fmt.Sprintf("u-%d", rnd.Intn(10000))
		e := full(uid)
		if rnd.Intn(2) == 0 {
			e = hour(uid, func(e *api.Event) { e.Start = rnd.Intn(api.MaxMinute) })
		}
		if rnd.Intn(2) == 0 {
			e.Text = ""
			for range rnd.Intn(api.MaxText + 1) {
				e.Text += string(`abc ,;\:` + "\n~"[rnd.Intn(2):])[rnd.Intn(3):][:1]
			}
		}
		l = append(l, e)
	}
	return l
}

// someLines gives those of a calendar, with lines of no meaning between.
func someLines(rnd *rand.Rand) []string {
	var l []string
	for _, e := range someEvents(rnd, rnd.Intn(35)) {
		lines := event.Lines(e)
		between := lines[1 : len(lines)-1]
		rnd.Shuffle(len(between), func(i, j int) { between[i], between[j] = between[j], between[i] })
		l = append(l, lines...)
		if rnd.Intn(4) == 0 {
			l = append(l, "X:y")
		}
	}
	l = around(l...)
	if rnd.Intn(4) == 0 {
		l = append(without(l[:len(l)-1], 1), "VERSION:2.0", "END:VCALENDAR")
	}
	return l
}

// changed gives the lines with a small change.
func changed(rnd *rand.Rand, l []string) []string {
	if len(l) == 0 {
		return l
	}
	at := rnd.Intn(len(l))
	switch rnd.Intn(9) {
	case 0:
		return slices.Delete(l, at, at+1)
	case 1:
		return slices.Insert(l, at, l[rnd.Intn(len(l))])
	case 2:
		return slices.Insert(l, at, strings.TrimSuffix(pool()[rnd.Intn(len(pool()))], "\r\n"))
	case 3:
		other := rnd.Intn(len(l))
		l[at], l[other] = l[other], l[at]
	case 4:
		l[at] = strings.ToLower(l[at])
	case 5:
		return slices.Insert(l, at, hourLines(fmt.Sprint("u-", rnd.Intn(3)))...)
	case 6:
		name, value, _ := strings.Cut(l[at], ":")
		l[at] = strings.ToLower(name) + ":" + value
	case 7:
		return slices.Insert(l, at, slices.Repeat([]string{"X:y"}, rnd.Intn(50))...)
	default:
		l[at] = changedText(rnd, l[at])
	}
	return l
}

// changedText gives the text with a sign more, less or another one.
func changedText(rnd *rand.Rand, s string) string {
	if s == "" {
		return s
	}
	at := rnd.Intn(len(s))
	signs := []string{"0", "2", ",", ";", ":", `\`, "n", "A", "a", " ", "\r", "\n", "\r\n", "\r\n ", "\xff"}
	sign := signs[rnd.Intn(len(signs))]
	switch rnd.Intn(3) {
	case 0:
		return s[:at] + s[at+1:]
	case 1:
		return s[:at] + sign + s[at:]
	}
	return s[:at] + sign + s[at+1:]
}
