package cal_test

import (
	"fmt"
	"slices"
	"strings"
	"testing"

	"hostelry/api"
	"hostelry/cal"
	"hostelry/event"
	"hostelry/fold"
)

// P11.1

func TestTheExampleOfTheChapter(t *testing.T) {
	for _, none := range [][]api.Event{nil, {}, some()[:0]} {
		expectText(t, none, "BEGIN:VCALENDAR\r\nVERSION:2.0\r\nEND:VCALENDAR\r\n")
	}
	expectEvents(t, head+foot, 3)
}

func TestPrintOfOneEvent(t *testing.T) {
	expectText(t, []api.Event{hour("a-1")}, "BEGIN:VCALENDAR\r\nVERSION:2.0\r\n"+
		"BEGIN:VEVENT\r\nUID:a-1\r\nDTSTART:20000102T103000\r\nDURATION:PT60M\r\nX-ROOMS:3\r\nEND:VEVENT\r\n"+
		"END:VCALENDAR\r\n")
}

func TestPrintOfAllThatThereIs(t *testing.T) {
	expectText(t, []api.Event{full("Az0-Zy9x-12B")}, head+
		"BEGIN:VEVENT\r\n"+
		"UID:Az0-Zy9x-12B\r\n"+
		"DTSTART:20991231T235900\r\n"+
		"DURATION:PT10080M\r\n"+
		"RRULE:FREQ=YEARLY;INTERVAL=100;UNTIL=20991231T235900;BYMONTH=1,2,12;BYMONTH\r\n"+
		" DAY=-31,-1,1,31;BYDAY=-5MO,SU,5TU\r\n"+
		"EXDATE:20000101T000000,20000102T000100,20000103T000200,20000104T000300,2000\r\n"+
		" 0105T000400,20000106T000500,20000107T000600,20000108T000700,20000109T00080\r\n"+
		" 0,20000110T000900,20000111T001000,20000112T001100\r\n"+
		"X-ROOMS:0,1,6,7\r\n"+
		`SUMMARY:a\,b\;c\\d\na\,b\;c\\d\na\,b\;c\\d\na\,b\;c\\d\na\,b\;c\\d\n`+"\r\n"+
		"END:VEVENT\r\n"+foot)
}

func TestPrintOfManyEvents(t *testing.T) {
	want := head
	for n, e := range some() {
		expectText(t, some()[:n], want+foot)
		expectText(t, []api.Event{e}, head+eventText(e)+foot)
		want += eventText(e)
	}
	expectText(t, some(), want+foot)
	back := some()
	slices.Reverse(back)
	want = foot
	for _, e := range some() {
		want = eventText(e) + want
	}
	expectText(t, back, head+want)
}

// eventText gives the part of a calendar's text that is an event's.
func eventText(e api.Event) string {
	var out strings.Builder
	for _, l := range event.Lines(e) {
		out.WriteString(fold.Fold(l) + "\r\n")
	}
	return out.String()
}

func TestPrintOfTexts(t *testing.T) {
	const start = head + "BEGIN:VEVENT\r\nUID:a\r\nDTSTART:20000102T103000\r\nDURATION:PT60M\r\nX-ROOMS:3\r\nSUMMARY:"
	const end = "\r\nEND:VEVENT\r\n" + foot
	for text, want := range map[string]string{
		"a":                       "a",
		" ":                       " ",
		",":                       `\,`,
		";":                       `\;`,
		`\`:                       `\\`,
		"\n":                      `\n`,
		`\n`:                      `\\n`,
		":":                       ":",
		"END:VCALENDAR":           "END:VCALENDAR",
		"a\nEND:VEVENT":           `a\nEND:VEVENT`,
		`a,b;c\d` + "\n e":        `a\,b\;c\\d\n e`,
		strings.Repeat("~", 40):   strings.Repeat("~", 40),
		strings.Repeat(",", 33):   strings.Repeat(`\,`, 33),
		strings.Repeat(",", 34):   strings.Repeat(`\,`, 33) + "\\\r\n ,",
		strings.Repeat("\n", 40):  strings.Repeat(`\n`, 33) + "\\\r\n n" + strings.Repeat(`\n`, 6),
		strings.Repeat(", ; ", 9): strings.Repeat(`\, \; `, 9),
	} {
		e := hour("a", func(e *api.Event) { e.Text = text })
		expectText(t, []api.Event{e}, start+want+end)
		expectEvents(t, start+want+end, 10, e)
	}
	for b := 32; b < 127; b++ {
		e := hour("a", func(e *api.Event) { e.Text = string(rune(b)) + "b" + string(rune(b)) })
		sign := string(rune(b))
		if strings.Contains(`\;,`, sign) {
			sign = `\` + sign
		}
		expectText(t, []api.Event{e}, start+sign+"b"+sign+end)
		expectEvents(t, start+sign+"b"+sign+end, 10, e)
	}
}

func TestPrintedPiecesAreShort(t *testing.T) {
	s, _ := cal.Print(some())
	longest := 0
	for _, piece := range strings.Split(s, "\r\n") {
		longest = max(longest, len(piece))
	}
	if longest != api.MaxLine || !strings.HasSuffix(s, "\r\n") || strings.Contains(strings.ReplaceAll(s, "\r\n", ""), "\n") {
		t.Errorf("%q has a piece of %d bytes", s, longest)
	}
}

func TestPrintOfWhatIsNoEvent(t *testing.T) {
	for _, none := range noEvents("z") {
		expectNoText(t, []api.Event{none}, api.ErrForm)
		expectNoText(t, []api.Event{none, none}, api.ErrForm)
		for at := range len(some()) + 1 {
			expectNoText(t, slices.Insert(some(), at, none), api.ErrForm)
		}
	}
}

func TestPrintOfTheSameUID(t *testing.T) {
	all := some()
	for i, e := range all {
		for at := range len(all) + 1 {
			for _, other := range []api.Event{e, hour(e.UID), full(e.UID)} {
				expectNoText(t, slices.Insert(some(), at, other), api.ErrForm)
			}
			// What is no event beside it changes nothing.
			expectNoText(t, slices.Insert(some(), at, e, noEvents("z")[at]), api.ErrForm)
			expectNoText(t, slices.Insert(some(), at, noEvents(e.UID)[at]), api.ErrForm)
		}
		expectNoText(t, []api.Event{e, e}, api.ErrForm)
		expectNoText(t, []api.Event{e, all[(i+1)%len(all)], e}, api.ErrForm)
	}
	expectNoText(t, []api.Event{{}, {}}, api.ErrForm)
	// Case counts, and what a UID has behind another one too.
	alike := []api.Event{hour("a"), hour("A"), hour("aa"), hour("aA"), hour("-a"), hour("a-"), hour("0"), hour("00")}
	want := head
	for _, e := range alike {
		want += eventText(e)
	}
	expectText(t, alike, want+foot)
}

// sized gives events that begin with these and whose calendar has so many bytes.
func sized(t *testing.T, bytes int, l ...api.Event) []api.Event {
	t.Helper()
	const least = len("BEGIN:VEVENT\r\nUID:0000\r\nDTSTART:20000102T103000\r\nDURATION:PT60M\r\nX-ROOMS:3\r\nEND:VEVENT\r\n")
	bytes -= len(head + foot)
	for _, e := range l {
		bytes -= len(eventText(e))
	}
	for first := len(l); bytes >= least; bytes -= least {
		l = append(l, hour(fmt.Sprintf("%04d", len(l)-first)))
	}
	for i := len(l) - 1; bytes > 0; i-- {
		more := min(bytes, 8)
		l[i].UID += strings.Repeat("x", more)
		bytes -= more
	}
	for _, e := range l {
		if !event.Is(e) {
			t.Fatalf("%+v: no event", e)
		}
	}
	return l
}

func TestPrintAtMaxBytes(t *testing.T) {
	var folded []api.Event
	for i := range 11 {
		folded = append(folded, full(fmt.Sprint("f", i)))
	}
	for _, first := range [][]api.Event{nil, {full("a")}, some(), folded} {
		for size := api.MaxBytes - 200; size < api.MaxBytes+200; size++ {
			l := sized(t, size, slices.Clone(first)...)
			if size > api.MaxBytes {
				expectNoText(t, l, api.ErrLong)
				continue
			}
			want := head
			for _, e := range l {
				want += eventText(e)
			}
			expectText(t, l, want+foot)
			if len(want+foot) != size {
				t.Fatalf("it has %d bytes, not %d", len(want+foot), size)
			}
		}
	}
}

func TestPrintOfWhatIsTooLongAndIllFormed(t *testing.T) {
	l := sized(t, api.MaxBytes+1)
	expectNoText(t, l, api.ErrLong)
	for _, at := range []int{0, 1, len(l) / 2, len(l) - 1, len(l)} {
		expectNoText(t, slices.Insert(slices.Clone(l), at, api.Event{}), api.ErrForm)
		expectNoText(t, slices.Insert(slices.Clone(l), at, l[len(l)/3]), api.ErrForm)
		expectNoText(t, slices.Insert(slices.Clone(l), at, hour("z")), api.ErrLong)
	}
	var many []api.Event
	for i := range 100_000 {
		many = append(many, hour(fmt.Sprint(i)))
	}
	for l, want := range map[int]api.Event{0: {}, 1: hour("0"), 2: hour("77777"), 3: hour("99999")} {
		if got, err := cal.Print(append(slices.Clip(many), want)); got != "" || err != api.ErrForm {
			t.Errorf("case %d: %q, %v", l, got, err)
		}
	}
	if got, err := cal.Print(many); got != "" || err != api.ErrLong {
		t.Errorf("%q, %v", got, err)
	}
}

func TestPrintOfMoreThanMaxLines(t *testing.T) {
	// The lines that are printed are not counted.
	l := sized(t, api.MaxBytes)
	s, err := cal.Print(l)
	if lines := len(fold.Unfold(s)); lines != 3+6*len(l) || lines <= api.MaxLines || err != api.OK {
		t.Errorf("%d events have %d lines, %v", len(l), lines, err)
	}
	expectTooLong(t, s)
}
