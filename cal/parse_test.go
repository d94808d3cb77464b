package cal_test

import (
	"fmt"
	"slices"
	"strings"
	"testing"

	"hostelry/api"
	"hostelry/cal"
)

// P11.2: what Parse accepts

func TestParseOfEvents(t *testing.T) {
	expectEvents(t, text(around()...), 3)
	expectEvents(t, text(around(hourLines("a")...)...), 9, hour("a"))
	expectEvents(t, text(around(fullLines("a")...)...), 12, full("a"))
	expectEvents(t, text(around(joined(hourLines("b"), fullLines("c"), hourLines("a"))...)...), 24, hour("b"), full("c"), hour("a"))
	expectEvents(t, text(around(joined(fullLines("a"), fullLines("A"))...)...), 21, full("a"), full("A"))
}

func TestTheEventsInOrder(t *testing.T) {
	uids := []string{"c", "a", "d", "b"}
	for range len(uids) {
		var l []string
		var want []api.Event
		for _, uid := range uids {
			l = append(l, hourLines(uid)...)
			want = append(want, hour(uid))
			expectEvents(t, text(around(l...)...), 3+len(l), want...)
		}
		uids = append(uids[1:], uids[0])
	}
}

func TestAsManyEventsAsThereCanBe(t *testing.T) {
	var l []string
	var want []api.Event
	for i := range 32 {
		uid := fmt.Sprint(i)
		l = append(l, hourLines(uid)...)
		want = append(want, hour(uid))
	}
	expectEvents(t, text(around(l...)...), 195, want...)
	expectEvents(t, text(around(append(l, "X:1", "X:2", "X:3", "X:4", "X:5")...)...), 200, want...)
	expectTooLong(t, text(around(append(l, hourLines("x")...)...)...))
	expectEvents(t, text(joined([]string{"BEGIN:VCALENDAR"}, l, []string{"X:1", "X:2", "X:3", "X:4", "X:5", "X:6", "END:VCALENDAR"})...), 200, want...)
}

func TestWordsInAnyCase(t *testing.T) {
	between := text(joined([]string{"VERSION:2.0"}, hourLines("a"))...)
	for _, word := range []string{"VCALENDAR", "vcalendar", "Vcalendar", "vCALENDAR", "vCaLeNdAr", "VCALENDAr"} {
		for _, name := range []string{"BEGIN", "begin", "Begin", "bEgIn"} {
			expectEvents(t, name+":"+word+"\r\n"+between+foot, 9, hour("a"))
		}
		for _, name := range []string{"END", "end", "End", "eNd"} {
			expectEvents(t, "BEGIN:VCALENDAR\r\n"+between+name+":"+word+"\r\n", 9, hour("a"))
			expectEvents(t, "begin:vcalendar\r\n"+name+":"+word, 2)
		}
	}
	for _, word := range []string{"VEVENT", "vevent", "vEvEnT"} {
		l := hourLines("a")
		l[0], l[5] = "Begin:"+word, "eND:"+word
		expectEvents(t, text(around(l...)...), 9, hour("a"))
	}
}

func TestNamesInSmallLetters(t *testing.T) {
	l := around(joined(hourLines("a"), fullLines("b"))...)
	small := slices.Clone(l)
	for i := range l {
		name, value, _ := strings.Cut(l[i], ":")
		one := slices.Clone(l)
		one[i] = strings.ToLower(name) + ":" + value
		small[i] = one[i]
		expectEvents(t, text(one...), len(l), hour("a"), full("b"))
	}
	expectEvents(t, text(small...), len(l), hour("a"), full("b"))
}

// places are the lines at which one may stand that is no event's: ahead of two events, between them and behind them.
func places() (l []string, at []int) {
	return joined([]string{"BEGIN:VCALENDAR"}, hourLines("a"), fullLines("b"), []string{"END:VCALENDAR"}), []int{1, 7, 16}
}

func TestTheVersionAnywhereOrNowhere(t *testing.T) {
	l, places := places()
	expectEvents(t, text(l...), 17, hour("a"), full("b"))
	expectEvents(t, text("BEGIN:VCALENDAR", "END:VCALENDAR"), 2)
	for _, at := range places {
		for _, version := range []string{"VERSION:2.0", "version:2.0", "Version:2.0"} {
			expectEvents(t, text(inserted(l, at, version)...), 18, hour("a"), full("b"))
		}
	}
	expectEvents(t, text("BEGIN:VCALENDAR", "X:y", "VERSION:2.0", "X:y", "END:VCALENDAR"), 5)
}

func TestAVersionWithinAnEventIsTheEventsOwn(t *testing.T) {
	for _, version := range []string{"VERSION:2.0", "VERSION:1.0", "VERSION:", "version:x"} {
		for at := 1; at < 6; at++ {
			l := inserted(hourLines("a"), at, version)
			expectEvents(t, text(around(l...)...), 10, hour("a"))
			expectEvents(t, text(around(inserted(l, at, version, version)...)...), 12, hour("a"))
			expectEvents(t, text(joined([]string{"BEGIN:VCALENDAR"}, l, []string{"END:VCALENDAR"})...), 9, hour("a"))
			expectEvents(t, text(joined([]string{"BEGIN:VCALENDAR"}, l, []string{"VERSION:2.0", "END:VCALENDAR"})...), 10, hour("a"))
		}
	}
}

func TestOtherLinesBetween(t *testing.T) {
	others := []string{
		"X:", "X:y", "PRODID:-//a,b;c", "METHOD:PUBLISH", "UID:a", "UID:no UID", "DTSTART:no time", "DURATION:", "X-ROOMS:9", "SUMMARY:,", "RRULE:", "EXDATE:",
		"VERSIONS:1.0", "VERSION2:1.0", "X-VERSION:1.0", "BEGINS:VEVENT", "ENDS:VCALENDAR", "BEGI:N", "EN:D", "-:END:VCALENDAR", "x-small:BEGIN:VEVENT", "0:\r\x00\xff\n", "ABCDEFGHIJKLMNOPQRST:" + strings.Repeat("x", 1000),
	}
	l, places := places()
	for _, at := range places {
		for _, other := range others {
			expectEvents(t, text(inserted(l, at, other)...), 18, hour("a"), full("b"))
			expectEvents(t, text(inserted(l, at, other, other, other)...), 20, hour("a"), full("b"))
		}
		expectEvents(t, text(inserted(l, at, others...)...), 17+len(others), hour("a"), full("b"))
	}
	// Within an event they are ignored, if they have no name of its own.
	expectEvents(t, text(around(inserted(hourLines("a"), 3, "X:", "VERSIONS:1.0", "ENDS:VCALENDAR")...)...), 12, hour("a"))
}

func TestTheLastLineNeedsNoEnd(t *testing.T) {
	for _, l := range [][]string{{"BEGIN:VCALENDAR", "END:VCALENDAR"}, around(), around(hourLines("a")...)} {
		var want []api.Event
		if len(l) > 3 {
			want = []api.Event{hour("a")}
		}
		s := text(l...)
		expectEvents(t, s, len(l), want...)
		expectEvents(t, strings.TrimSuffix(s, "\r\n"), len(l), want...)
	}
}

func TestLinesFoldedAtAnyPlace(t *testing.T) {
	s := text(around(joined(hourLines("a"), fullLines("b"))...)...)
	folded := ""
	for at := range len(s) {
		if s[at] == '\n' { // it would take an end of line apart
			folded += "\n"
			continue
		}
		for _, fold := range []string{"\r\n ", "\r\n \r\n ", "\r\n \r\n \r\n "} {
			expectEvents(t, s[:at]+fold+s[at:], 18, hour("a"), full("b"))
		}
		folded += "\r\n " + string(s[at])
	}
	expectEvents(t, folded, 18, hour("a"), full("b"))
	expectEvents(t, s[:len(s)-2]+"\r\n ", 18, hour("a"), full("b"))
	expectEvents(t, s+" ", 18, hour("a"), full("b")) // a fold of the last line, with nothing in it
}

// padded gives a calendar of an hour with so many bytes, in lines of no meaning.
func padded(bytes int) (string, int) {
	l := around(hourLines("a")...)
	for {
		lack := bytes - len(text(l...))
		switch {
		case lack == 0:
			return text(l...), len(l)
		case lack < 200:
			l = inserted(l, 2, "X:"+strings.Repeat("x", lack-4))
		default:
			l = inserted(l, 2, "X:"+strings.Repeat("x", 96))
		}
	}
}

func TestParseAtMaxBytes(t *testing.T) {
	for bytes := api.MaxBytes - 20; bytes < api.MaxBytes+20; bytes++ {
		s, n := padded(bytes)
		if len(s) != bytes || n > api.MaxLines {
			t.Fatalf("it has %d bytes, not %d, and %d lines", len(s), bytes, n)
		}
		if bytes > api.MaxBytes {
			expectTooLong(t, s)
		} else {
			expectEvents(t, s, n, hour("a"))
		}
	}
	// What is not told apart by unfolding counts too.
	s, n := padded(api.MaxBytes - 2)
	expectTooLong(t, strings.Replace(s, "UID", "UI\r\n D", 1))
	s, n = padded(api.MaxBytes - 3)
	expectEvents(t, strings.Replace(s, "UID", "UI\r\n D", 1), n, hour("a"))
	// Nor does it matter what the bytes are.
	for _, sign := range []string{"a", "\x00", "\xff", "\n", " ", ":", "\u00e9"} {
		long := strings.Repeat(sign, api.MaxBytes)
		expectTooLong(t, long+sign)
		expectFault(t, long[:api.MaxBytes], 0)
		expectTooLong(t, text(around(hourLines("a")...)...)+long)
	}
	expectTooLong(t, strings.Repeat("BEGIN:VCALENDAR\r\n", 1_000_000))
}

// filled gives a calendar of an hour with so many lines.
func filled(lines int) []string {
	l := around(hourLines("a")...)
	for len(l) < lines {
		l = inserted(l, 2, "X:y")
	}
	return l
}

func TestParseAtMaxLines(t *testing.T) {
	for n := api.MaxLines - 20; n < api.MaxLines+20; n++ {
		l := filled(n)
		for _, s := range []string{text(l...), strings.TrimSuffix(text(l...), "\r\n"), strings.ReplaceAll(text(l...), "X", "\r\n X\r\n \r\n ")} {
			if len(s) > api.MaxBytes {
				t.Fatalf("it has %d bytes", len(s))
			}
			if n > api.MaxLines {
				expectTooLong(t, s)
			} else {
				expectEvents(t, s, n, hour("a"))
			}
		}
	}
	// They count wherever they are, and whatever they say.
	s := text(filled(api.MaxLines)...)
	expectEvents(t, s, api.MaxLines, hour("a"))
	for _, more := range []string{"\r\n", "\r\n\r\n", "X", "END:VCALENDAR"} {
		expectTooLong(t, s+more)
		expectTooLong(t, "\r\n"+s+more)
	}
	expectFault(t, text(slices.Repeat([]string{""}, api.MaxLines)...), 0)
	expectTooLong(t, text(slices.Repeat([]string{""}, api.MaxLines+1)...))
	// They are counted unfolded.
	expectEvents(t, head+"X:"+strings.Repeat("\r\n ", 2000)+"\r\n"+foot, 4)
	expectEvents(t, head+strings.Repeat("\r\n ", 2000)+"X:y\r\n"+foot, 4)
}

func TestTooManyBytesAndLines(t *testing.T) {
	l := around(joined(hourLines("a"), slices.Repeat([]string{"X:" + strings.Repeat("y", 100)}, api.MaxLines))...)
	expectTooLong(t, text(l...))
	expectTooLong(t, text(l[1:]...)) // whatever line can't be accepted
	expectTooLong(t, text(append(l, l...)...))
	bytes, _ := padded(api.MaxBytes + 1)
	expectTooLong(t, "\r\n"+bytes)
	expectTooLong(t, strings.ReplaceAll(bytes, "UID", "U D"))
	lines := text(filled(api.MaxLines + 1)...)
	expectTooLong(t, "!"+lines)
	expectTooLong(t, strings.Replace(lines, "UID", "UID:a\r\nUID", 1))
	expectTooLong(t, strings.Replace(lines, "X:y", "END:VCALENDAR", 3))
}

// P11.2 and the rules of DOC.md.

func TestEventsThatAreParsedAreNewMemory(t *testing.T) {
	s, _ := cal.Print(some())
	a, _, _ := cal.Parse(s)
	b, _, _ := cal.Parse(s)
	for i := range a {
		fill(a[i].Rooms, -7)
		fill(a[i].Except, -7)
		fill(a[i].Rule.ByDay, api.Weekday{N: -7, Day: -7})
		fill(a[i].Rule.ByMonthDay, -7)
		fill(a[i].Rule.ByMonth, -7)
	}
	fill(a, api.Event{})
	if !equal(b, some()) {
		t.Errorf("writing into the events of a calendar changes those read earlier or later: %s", brief(b))
	}
	// One event's lists are apart from another one's.
	for i := range b {
		a, _, _ := cal.Parse(s)
		want := some()
		fill(a[i].Rooms, -7)
		fill(a[i].Except, -7)
		fill(want[i].Rooms, -7)
		fill(want[i].Except, -7)
		if !equal(a, want) {
			t.Errorf("writing into the lists of event %d changes %s", i, brief(a))
		}
	}
	expectEvents(t, s, 3+6+9+7+7+9+9+6, some()...)
}

func fill[E any](l []E, with E) {
	l = l[:cap(l)]
	for i := range l {
		l[i] = with
	}
}
