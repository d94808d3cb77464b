package event_test

import (
	"math/rand"
	"slices"
	"strings"
	"testing"

	"hostelry/api"
	"hostelry/event"
	"hostelry/rule"
)

// P10.2: what Read accepts, and P10.3

func TestLinesAreReadAsTheSameEvent(t *testing.T) {
	for _, e := range events() {
		l := event.Lines(e)
		expectEvent(t, l, e, len(l))
	}
	expectEvent(t, hourLines(), hour(), 6)
	expectEvent(t, fullLines(), full(), 9)
}

func TestManyEventsAreReadAgain(t *testing.T) {
	rnd := rand.New(rand.NewSource(103))
	for range 10000 {
		e := someEvent(rnd)
		l := event.Lines(e)
		if len(l) < 6 {
			t.Fatalf("%+v has the lines %q", e, l)
		}
		expectEvent(t, l, e, len(l))
		got, _, _ := event.Read(l)
		if !slices.Equal(event.Lines(got), l) || !event.Same(got, e) {
			t.Errorf("%q is read as %+v", l, got)
		}
		if t.Failed() {
			return
		}
	}
}

func TestLinesBehindTheEvent(t *testing.T) {
	for _, e := range events() {
		l := event.Lines(e)
		for _, behind := range [][]string{
			{""}, {"no line"}, {":"}, {"BEGIN:VEVENT"}, {"END:VEVENT"}, {"END:VCALENDAR"}, {"UID:b"}, {"UID:?"}, {"BEGIN:VCALENDAR", "no line"},
			hourLines(), fullLines(), {"SUMMARY:a,b", "END:VEVENT"},
		} {
			expectEvent(t, joined(l, behind), e, len(l))
		}
	}
}

func TestBeginAndEndInAnyCase(t *testing.T) {
	between := hourLines()[1:5]
	for _, word := range []string{"VEVENT", "vevent", "Vevent", "vEVENT", "vEvEnT", "VeVeNt", "VEVENt"} {
		for _, name := range []string{"BEGIN", "begin", "Begin", "bEgIn"} {
			expectEvent(t, joined([]string{name + ":" + word}, between, []string{"END:VEVENT"}), hour(), 6)
		}
		for _, name := range []string{"END", "end", "End", "eNd"} {
			expectEvent(t, joined([]string{"BEGIN:VEVENT"}, between, []string{name + ":" + word}), hour(), 6)
		}
	}
}

func TestNamesInSmallLetters(t *testing.T) {
	for _, l := range [][]string{hourLines(), fullLines()} {
		want, _, _ := event.Read(l)
		small := slices.Clone(l)
		for i := range l {
			name, value, _ := strings.Cut(l[i], ":")
			one := slices.Clone(l)
			one[i] = strings.ToLower(name) + ":" + value
			small[i] = one[i]
			expectEvent(t, one, want, len(l))
		}
		expectEvent(t, small, want, len(l))
	}
	expectEvent(t, lines("Uid:a-1", "dtStart:20000102T103000", "DURAtion:PT60M", "x-Rooms:3"), hour(), 6)
}

// eachOrder calls do with the lines in each order.
func eachOrder(l []string, do func(l []string)) {
	if len(l) < 2 {
		do(l)
		return
	}
	for i, first := range l {
		rest := joined(l[:i], l[i+1:])
		eachOrder(rest, func(rest []string) { do(joined([]string{first}, rest)) })
	}
}

func TestLinesInEachOrder(t *testing.T) {
	for _, l := range [][]string{hourLines(), fullLines()} {
		want, _, _ := event.Read(l)
		eachOrder(l[1:len(l)-1], func(between []string) {
			if !t.Failed() {
				expectEvent(t, lines(between...), want, len(l))
			}
		})
	}
}

func TestLinesThatAreIgnored(t *testing.T) {
	ignored := []string{
		"X:", "X:y", "VERSION:2.0", "DESCRIPTION:a,b;c", "DTEND:no time", "DTSTAMP:20000102T103000", "UIDS:a", "X-ROOM:3", "ROOMS:3", "X-ROOMS-:3",
		"EXDATES:1", "EXRULE:", "RDATE:", "BEGINS:VEVENT", "ENDS:VEVENT", "-:END:VEVENT", "x-small:BEGIN:VEVENT", "0:\r\n\x00\xff", "ABCDEFGHIJKLMNOPQRST:" + strings.Repeat("x", 1000),
	}
	for _, l := range [][]string{hourLines(), fullLines()} {
		want, _, _ := event.Read(l)
		for at := 1; at < len(l); at++ {
			for _, other := range ignored {
				expectEvent(t, slices.Insert(slices.Clone(l), at, other), want, len(l)+1)
				expectEvent(t, slices.Insert(slices.Clone(l), at, other, other, other), want, len(l)+3)
			}
			expectEvent(t, slices.Insert(slices.Clone(l), at, ignored...), want, len(l)+len(ignored))
		}
	}
	// There may be any number of them.
	many := make([]string, 100_000)
	fill(many, "X:y")
	expectEvent(t, lines(joined(many, hourLines()[1:5])...), hour(), 100_006)
}

// other gives the lines of an hour with this value in place of the one there is, or before its end.
func other(name, value string) []string {
	l := hourLines()
	at := slices.IndexFunc(l, func(l string) bool { return strings.HasPrefix(l, name+":") })
	if at < 0 {
		return slices.Insert(l, 5, name+":"+value)
	}
	l[at] = name + ":" + value
	return l
}

func TestValuesThatAreAccepted(t *testing.T) {
	for _, c := range []struct {
		name, value string
		change      func(e *api.Event)
	}{
		{"UID", "a", func(e *api.Event) { e.UID = "a" }},
		{"UID", "-", func(e *api.Event) { e.UID = "-" }},
		{"UID", "aZ-0123456-9", func(e *api.Event) { e.UID = "aZ-0123456-9" }},
		{"DTSTART", "20000101T000000", func(e *api.Event) { e.Start = 0 }},
		{"DTSTART", "20040229T235900", func(e *api.Event) { e.Start = 1521*api.Day - 1 }},
		{"DTSTART", "20991231T235900", func(e *api.Event) { e.Start = lastMinute }},
		{"DURATION", "PT1M", func(e *api.Event) { e.Long = 1 }},
		{"DURATION", "PT100M", func(e *api.Event) { e.Long = 100 }},
		{"DURATION", "PT10080M", func(e *api.Event) { e.Long = 10080 }},
		{"RRULE", "FREQ=DAILY", func(e *api.Event) { e.Rule = daily() }},
		{"RRULE", "INTERVAL=1;FREQ=DAILY", func(e *api.Event) { e.Rule = daily() }},
		{"RRULE", "BYMONTH=2,1;COUNT=3;FREQ=DAILY", func(e *api.Event) { e.Rule = daily(); e.Rule.Count, e.Rule.ByMonth = 3, []int{1, 2} }},
		{"X-ROOMS", "0", func(e *api.Event) { e.Rooms = []int{0} }},
		{"X-ROOMS", "7", func(e *api.Event) { e.Rooms = []int{7} }},
		{"X-ROOMS", "7,0", func(e *api.Event) { e.Rooms = []int{0, 7} }},
		{"X-ROOMS", "3,1,2", func(e *api.Event) { e.Rooms = []int{1, 2, 3} }},
		{"X-ROOMS", "7,6,5,4", func(e *api.Event) { e.Rooms = []int{4, 5, 6, 7} }},
		{"X-ROOMS", "0,2,4,6", func(e *api.Event) { e.Rooms = []int{0, 2, 4, 6} }},
		{"SUMMARY", "", func(e *api.Event) {}},
		{"SUMMARY", " ", func(e *api.Event) { e.Text = " " }},
		{"SUMMARY", "a:b", func(e *api.Event) { e.Text = "a:b" }},
		{"SUMMARY", `\N\n\\\,\;`, func(e *api.Event) { e.Text = "\n\n\\,;" }},
		{"SUMMARY", `\\n`, func(e *api.Event) { e.Text = `\n` }},
		{"SUMMARY", strings.Repeat("~", 40), func(e *api.Event) { e.Text = strings.Repeat("~", 40) }},
		{"SUMMARY", strings.Repeat(`\,`, 40), func(e *api.Event) { e.Text = strings.Repeat(",", 40) }},
	} {
		l := other(c.name, c.value)
		expectEvent(t, l, with(hour(), c.change), len(l))
	}
}

func TestExceptionsThatAreAccepted(t *testing.T) {
	for value, want := range map[string][]int{
		"20000101T000000":                                 {0},
		"20991231T235900":                                 {lastMinute},
		"20991231T235900,20000101T000000":                 {0, lastMinute},
		"20000103T000000,20000101T000000,20000102T000000": {0, api.Day, 2 * api.Day},
	} {
		l := lines("EXDATE:"+value, "X-ROOMS:3", "DURATION:PT60M", "RRULE:FREQ=DAILY", "DTSTART:20000102T103000", "UID:a-1")
		expectEvent(t, l, with(hour(), func(e *api.Event) { e.Rule, e.Except = daily(), want }), 8)
	}
}

func TestListsInAnyOrder(t *testing.T) {
	rnd := rand.New(rand.NewSource(102))
	for range 2000 {
		l := fullLines()
		for _, i := range []int{5, 6} {
			name, value, _ := strings.Cut(l[i], ":")
			elements := strings.Split(value, ",")
			rnd.Shuffle(len(elements), func(i, j int) { elements[i], elements[j] = elements[j], elements[i] })
			l[i] = name + ":" + strings.Join(elements, ",")
		}
		expectEvent(t, l, full(), 9)
	}
}

func TestLinesOfWhatMayBeMissing(t *testing.T) {
	for _, name := range []string{"RRULE", "EXDATE", "SUMMARY"} {
		e, l := full(), fullLines()
		l = slices.DeleteFunc(l, func(l string) bool { return strings.HasPrefix(l, name+":") })
		switch name {
		case "RRULE":
			l = slices.Delete(l, 4, 5) // no exceptions without it
			e.Rule, e.Except = rule.Once(), nil
		case "EXDATE":
			e.Except = nil
		case "SUMMARY":
			e.Text = ""
		}
		expectEvent(t, l, e, len(l))
	}
}

// The rules of DOC.md.

func TestLinesStayAsTheyWere(t *testing.T) {
	for _, was := range [][]string{nil, {}, {"BEGIN:VEVENT"}, {"no line"}, hourLines(), fullLines(), fullLines()[:5], joined(fullLines(), hourLines()), other("X-ROOMS", "7,5,3,1"), other("X-ROOMS", "1,1")} {
		l := more(was, "behind")
		_, _, _ = event.Read(l)
		if !slices.Equal(l, was) || !hasBehind(l, "behind") {
			t.Errorf("%q became %q", was, l[:len(l)+3])
		}
	}
}

func TestWhatLiesBehindTheLinesDoesNotCount(t *testing.T) {
	for n := range hourLines() {
		expectFault(t, hourLines()[:n], n)
	}
}

func TestEventsThatAreReadAreNewMemory(t *testing.T) {
	l := fullLines()
	a, _, _ := event.Read(l)
	b, _, _ := event.Read(l)
	scribble(a)
	if !equal(b, full()) {
		t.Errorf("writing into the event of the lines changes another one to %+v", b)
	}
	fill(l, "spoilt")
	if !equal(b, full()) {
		t.Errorf("writing into the lines changes the event to %+v", b)
	}
	expectEvent(t, fullLines(), full(), 9)
	for _, change := range []func(e api.Event){
		func(e api.Event) { fill(e.Rooms, -7) },
		func(e api.Event) { fill(e.Except, -7) },
		func(e api.Event) { fill(e.Rule.ByMonthDay, -7) },
		func(e api.Event) { fill(e.Rule.ByMonth, -7) },
	} {
		a, _, _ := event.Read(fullLines())
		b := full()
		change(a)
		change(b)
		if !equal(a, b) {
			t.Errorf("writing into one list changes another one: %+v", a)
		}
	}
}
