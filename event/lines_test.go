package event_test

import (
	"slices"
	"strings"
	"testing"

	"hostelry/api"
	"hostelry/event"
)

// P10.2: Lines

func TestTheExampleOfTheChapter(t *testing.T) {
	if got := event.Lines(hour()); len(got) != 6 {
		t.Errorf("one hour in room 3 has the lines %q", got)
	}
	expectLines(t, hour(), hourLines()...)
}

func TestLinesOfAllThatThereIs(t *testing.T) {
	expectLines(t, full(), fullLines()...)
}

func TestLinesOfWhatIsNoEvent(t *testing.T) {
	for _, e := range noEvents() {
		expectLines(t, e)
	}
	for _, r := range noRules() {
		expectLines(t, with(full(), func(e *api.Event) { e.Rule = r }))
		expectLines(t, with(hour(), func(e *api.Event) { e.Rule = r }))
	}
}

func TestLinesThatMayBeMissing(t *testing.T) {
	all := []string{"BEGIN:VEVENT", "UID:a-1", "DTSTART:20000102T103000", "DURATION:PT60M", "RRULE:FREQ=DAILY", "EXDATE:20000103T103000", "X-ROOMS:3", `SUMMARY:a\,b`, "END:VEVENT"}
	for _, ruled := range []bool{false, true} {
		for _, except := range []bool{false, true} {
			for _, text := range []bool{false, true} {
				if except && !ruled {
					continue // no event
				}
				e, want := hour(), slices.Clone(all)
				drop := func(name string) {
					want = slices.DeleteFunc(want, func(l string) bool { return strings.HasPrefix(l, name+":") })
				}
				if ruled {
					e.Rule = daily()
				} else {
					drop("RRULE")
				}
				if except {
					e.Except = []int{2070 + api.Day}
				} else {
					drop("EXDATE")
				}
				if text {
					e.Text = "a,b"
				} else {
					drop("SUMMARY")
				}
				expectLines(t, e, want...)
				expectEvent(t, want, e, len(want))
			}
		}
	}
}

// lineOf gives the value of the line with this name, which the event must have once.
func lineOf(t *testing.T, e api.Event, name string) string {
	t.Helper()
	var values []string
	for _, l := range event.Lines(e) {
		if value, ok := strings.CutPrefix(l, name+":"); ok {
			values = append(values, value)
		}
	}
	if len(values) != 1 {
		t.Fatalf("%+v has the values %q of %s", e, values, name)
	}
	return values[0]
}

func TestTheValueOfEachLine(t *testing.T) {
	for _, c := range []struct {
		name, want string
		change     func(e *api.Event)
	}{
		{"UID", "a", func(e *api.Event) { e.UID = "a" }},
		{"UID", "-", func(e *api.Event) { e.UID = "-" }},
		{"UID", "ABCDEFabcd09", func(e *api.Event) { e.UID = "ABCDEFabcd09" }},
		{"DTSTART", "20000101T000000", func(e *api.Event) { e.Start = 0 }},
		{"DTSTART", "20991231T235900", func(e *api.Event) { e.Start = lastMinute }},
		{"DURATION", "PT1M", func(e *api.Event) { e.Long = 1 }},
		{"DURATION", "PT1440M", func(e *api.Event) { e.Long = 1440 }},
		{"DURATION", "PT10080M", func(e *api.Event) { e.Long = 10080 }},
		{"RRULE", "FREQ=DAILY", func(e *api.Event) {}},
		{"RRULE", "FREQ=WEEKLY;INTERVAL=2;COUNT=40", func(e *api.Event) { e.Rule = api.Rule{Freq: api.Weekly, Every: 2, Count: 40, Until: -1} }},
		{"RRULE", "FREQ=DAILY;UNTIL=20000101T000000", func(e *api.Event) { e.Rule.Until = 0 }},
		{"RRULE", "FREQ=MONTHLY;BYDAY=-1FR", func(e *api.Event) { e.Rule.Freq, e.Rule.ByDay = api.Monthly, []api.Weekday{{N: -1, Day: 4}} }},
		{"EXDATE", "20000101T000000", func(e *api.Event) { e.Except = []int{0} }},
		{"EXDATE", "20000101T000000,20991231T235900", func(e *api.Event) { e.Except = []int{0, lastMinute} }},
		{"X-ROOMS", "0", func(e *api.Event) { e.Rooms = []int{0} }},
		{"X-ROOMS", "4,5,6,7", func(e *api.Event) { e.Rooms = []int{4, 5, 6, 7} }},
		{"SUMMARY", "a", func(e *api.Event) {}},
		{"SUMMARY", " ", func(e *api.Event) { e.Text = " " }},
		{"SUMMARY", `\\`, func(e *api.Event) { e.Text = `\` }},
		{"SUMMARY", `\;`, func(e *api.Event) { e.Text = ";" }},
		{"SUMMARY", `\,`, func(e *api.Event) { e.Text = "," }},
		{"SUMMARY", `\n`, func(e *api.Event) { e.Text = "\n" }},
		{"SUMMARY", `\\n`, func(e *api.Event) { e.Text = `\n` }},
		{"SUMMARY", `a\\\;b\,\,c\n\nd: "e"`, func(e *api.Event) { e.Text = `a\;b,,c` + "\n\n" + `d: "e"` }},
		{"SUMMARY", strings.Repeat(`\n`, 40), func(e *api.Event) { e.Text = strings.Repeat("\n", 40) }},
	} {
		e := with(hour(), func(e *api.Event) { e.Text, e.Rule, e.Except = "a", daily(), []int{5} })
		c.change(&e)
		if got := lineOf(t, e, c.name); got != c.want {
			t.Errorf("%+v has %s:%s, want %s", e, c.name, got, c.want)
		}
	}
}

func TestTextsOfEachSign(t *testing.T) {
	for b := 32; b < 127; b++ {
		s := string(rune(b))
		want := s
		if strings.Contains(`\;,`, s) {
			want = `\` + s
		}
		for _, n := range []int{1, 2, 20, api.MaxText} {
			e := with(hour(), func(e *api.Event) { e.Text = strings.Repeat(s, n) })
			if got := lineOf(t, e, "SUMMARY"); got != strings.Repeat(want, n) {
				t.Errorf("%d times %q is written %q", n, s, got)
			}
		}
	}
}

func TestLinesAreNotFolded(t *testing.T) {
	for _, l := range event.Lines(full()) {
		if strings.ContainsAny(l, "\r\n") {
			t.Errorf("%q is folded", l)
		}
	}
	if got := len(lineOf(t, full(), "EXDATE")); got != 12*16-1 {
		t.Errorf("the exceptions have %d bytes", got)
	}
}

// The rules of DOC.md.

func TestLinesAreNewMemory(t *testing.T) {
	for _, e := range events() {
		a, b := event.Lines(e), event.Lines(e)
		want := slices.Clone(b)
		fill(a, "spoilt")
		if !slices.Equal(b, want) || !slices.Equal(event.Lines(e), want) {
			t.Errorf("writing into the lines of %+v changes the next ones", e)
		}
	}
}

func TestArgumentsStayAsTheyWere(t *testing.T) {
	for _, was := range slices.Concat(events(), noEvents(), different()) {
		e, other := roomy(was), roomy(full())
		event.Is(e)
		event.Same(e, other)
		event.Same(other, e)
		event.Lines(e)
		event.Copy(e)
		if !untouched(e, was) || !untouched(other, full()) {
			t.Errorf("%+v became %+v", was, e)
		}
	}
}

func TestTheSameAgain(t *testing.T) {
	for range 3 {
		expectLines(t, hour(), hourLines()...)
		expectLines(t, full(), fullLines()...)
		expectLines(t, api.Event{})
		expectEvent(t, fullLines(), full(), 9)
		expectFault(t, hourLines()[:3], 3)
		expectEvent(t, hourLines(), hour(), 6)
	}
}
