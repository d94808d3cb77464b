package cal_test

import (
	"slices"
	"strings"
	"testing"

	"hostelry/api"
	"hostelry/cal"
)

// P11.2: what Parse does not accept, and which line it tells

func TestParseOfNothing(t *testing.T) {
	expectFault(t, "", 0)
	for _, s := range []string{"\r", "\n", "\r\n", "\r\n\r\n", " ", "\r\n ", ":", "x", "\x00", "\xff", "\ufeff"} {
		expectFault(t, s, 0)
	}
}

func TestEachBeginningOfACalendar(t *testing.T) {
	l := around(joined(hourLines("a"), hourLines("b"))...) // none of these lines can be accepted until it is whole
	for i, line := range l {
		before := text(l[:i]...)
		for size := 1; size < len(line); size++ {
			expectFault(t, before+line[:size], i)
		}
		expectFault(t, before+line+"\r", i) // the byte 13 alone is one of the value
		expectFault(t, before, i)
		if i < len(l)-1 {
			expectFault(t, before+line, i+1)
		}
	}
	expectEvents(t, strings.TrimSuffix(text(l...), "\r\n"), 15, hour("a"), hour("b"))
	expectEvents(t, text(l...), 15, hour("a"), hour("b"))
	s, _ := cal.Print(some())
	for size := range len(s) {
		if err := expectByWords(t, s[:size]); err != api.ErrForm && size != len(s)-2 {
			t.Errorf("%s: %v", brief(s[:size]), err)
		}
	}
}

func TestTheBeginMissing(t *testing.T) {
	for _, l := range [][]string{{"END:VCALENDAR"}, {"VERSION:2.0", "END:VCALENDAR"}, hourLines("a"), joined(hourLines("a"), []string{"END:VCALENDAR"}), {"X:y"}, {"X:y", "X:y"}} {
		expectFault(t, text(l...), 0)
		// Nor can it come later.
		expectFault(t, text(joined(l, around(hourLines("b")...))...), 0)
		expectFault(t, text(joined(l, []string{"BEGIN:VCALENDAR"})...), 0)
	}
	good := text(around(hourLines("a")...)...)
	for _, first := range []string{
		"BEGIN", "VCALENDAR", "BEGIN:", "BEGIN: VCALENDAR", "BEGIN:VCALENDAR ", "BEGIN :VCALENDAR", " BEGIN:VCALENDAR", "BEGIN:VEVENT", "BEGIN:VCALENDARS", "BEGIN:VCALENDA", "BEGIN:CALENDAR", "BEGIN;VCALENDAR", "BEGIN:VCALENDAR:",
		"BEGIN:VCALENDAR\n", "BEGIN:VCALENDAR\r", "\nBEGIN:VCALENDAR", "\ufeffBEGIN:VCALENDAR", "BEGIN:VC\u0410LENDAR", "BEGIN:\uff36CALENDAR", "BEGIN;X=1:VCALENDAR", "BEGINS:VCALENDAR", "END:VCALENDAR", "X:BEGIN:VCALENDAR", "no line", "",
		"BEGIN:VCALENDAR\nVERSION:2.0",
	} {
		expectFault(t, first, 0)
		expectFault(t, first+"\r\n"+foot, 0)
		expectFault(t, first+"\r\n"+good, 0)
		expectFault(t, strings.Replace(good, "BEGIN:VCALENDAR", first, 1), 0)
	}
	expectFault(t, "\r\n"+good, 0)
}

func TestTheBeginTwice(t *testing.T) {
	l, places := places()
	for _, at := range places {
		for _, second := range []string{"BEGIN:VCALENDAR", "begin:vcalendar", "BEGIN:VALARM", "BEGIN:", "Begin:VEVENTS", "BEGIN: VEVENT", "BEGIN:VEVENT ", "BEGIN:END", "BEGIN:VERSION:2.0"} {
			expectFault(t, text(inserted(l, at, second)...), at)
			expectFault(t, text(inserted(l, at, second, second)...), at)
			expectFault(t, text(l[:at]...)+second, at)
		}
	}
	for at := 1; at < 6; at++ {
		expectFault(t, text(around(inserted(hourLines("a"), at, "BEGIN:VCALENDAR")...)...), 2+at)
	}
}

func TestTheEndMissing(t *testing.T) {
	for _, l := range [][]string{{"BEGIN:VCALENDAR"}, {"BEGIN:VCALENDAR", "VERSION:2.0"}, {"BEGIN:VCALENDAR", "X:y"}, around(hourLines("a")...)[:8], around(joined(hourLines("a"), fullLines("b"), []string{"X:y"})...)[:18]} {
		expectFault(t, text(l...), len(l))
		expectFault(t, strings.TrimSuffix(text(l...), "\r\n"), len(l))
		for _, last := range []string{
			"END", "VCALENDAR", "END:", "END: VCALENDAR", "END:VCALENDAR ", "END:VEVENT", "END:VALARM", "END:VCALENDARS", "END:VCALENDA", "END:CALENDAR", "END;VCALENDAR", "END:VCALENDAR:", "END:VCALENDAR\n", "END:VCALENDAR\r",
			"END:V\u0421ALENDAR", "END;X=1:VCALENDAR", "BEGIN:VCALENDAR", "no line", "END:VERSION:2.0", "END:VCALENDAR\nEND:VCALENDAR",
		} {
			expectFault(t, text(append(l, last)...), len(l))
			expectFault(t, text(append(l, last, "END:VCALENDAR")...), len(l))
			expectFault(t, text(l...)+last, len(l))
		}
		for _, last := range []string{"ENDS:VCALENDAR", "X:END:VCALENDAR", "END-:VCALENDAR"} {
			expectFault(t, text(append(l, last)...), len(l)+1)
		}
	}
	// Nor does an event that has none make one.
	for n := 1; n < 6; n++ {
		expectFault(t, text(around(hourLines("a")[:n]...)[:2+n]...), 2+n)
		expectFault(t, text(around(hourLines("a")[:n]...)...), 2+n)
	}
}

func TestLinesBehindTheEnd(t *testing.T) {
	for _, l := range [][]string{{"BEGIN:VCALENDAR", "END:VCALENDAR"}, around(), around(hourLines("a")...), around(joined(hourLines("a"), fullLines("b"))...)} {
		for _, behind := range [][]string{
			{""}, {"", ""}, {"X:y"}, {"no line"}, {"END:VCALENDAR"}, {"end:vcalendar"}, {"BEGIN:VCALENDAR"}, {"END:VEVENT"}, {"VERSION:2.0"}, {"VERSION:1.0"}, {"\x00"}, {"\n"}, {"\r"}, {"\t"}, {"\t", " "},
			hourLines("z"), around(), l,
		} {
			expectFault(t, text(joined(l, behind)...), len(l))
			expectFault(t, strings.TrimSuffix(text(joined(l, append(behind, "?"))...), "\r\n"), len(l))
		}
		for b := range 256 {
			if b != ' ' {
				expectFault(t, text(l...)+string([]byte{byte(b)}), len(l))
			}
			// Without an end of line before it, it is in the last line, which is no END:VCALENDAR then.
			expectFault(t, strings.TrimSuffix(text(l...), "\r\n")+string([]byte{byte(b)}), len(l)-1)
		}
		expectFault(t, text(l...)+" x", len(l)-1)
		expectFault(t, text(l...)+"  ", len(l)-1)
		expectFault(t, text(l...)+" \r\n\r\n", len(l))
		expectFault(t, text(l...)+"\r\n ", len(l)) // an empty line, folded
	}
}

func TestTheEndTwice(t *testing.T) {
	l, places := places()
	for _, at := range places {
		for _, end := range []string{"END:VCALENDAR", "end:vcalendar"} {
			expectFault(t, text(inserted(l, at, end)...), at+1)
			expectFault(t, text(inserted(l, at, end, end)...), at+1)
			expectFault(t, text(inserted(l, at, end, "no line")...), at+1)
		}
		for _, end := range []string{"END:VEVENT", "END:", "END:VALARM", "end:vcalendars", "END: VCALENDAR"} {
			expectFault(t, text(inserted(l, at, end)...), at)
			expectFault(t, text(inserted(l, at, end, end)...), at)
		}
	}
	for at := 1; at < 6; at++ {
		expectFault(t, text(around(inserted(hourLines("a"), at, "END:VCALENDAR")...)...), 2+at)
	}
}

func TestVersionsThatAreNotAccepted(t *testing.T) {
	l, places := places()
	for _, at := range places {
		for _, value := range []string{"", " ", "2", "2.", ".0", "2.00", "02.0", "2.1", "1.0", "3.0", "2,0", "2.0 ", " 2.0", "2.0;", "2.0:", "\"2.0\"", "+2.0", "2.0.0", "2\\.0", "2.O", "\uff12.0", "2.0\n", "2.0\r", "2.0\nX:y", "VERSION:2.0"} {
			expectFault(t, text(inserted(l, at, "VERSION:"+value)...), at)
			expectFault(t, text(inserted(l, at, "version:"+value, "VERSION:2.0")...), at)
			expectFault(t, text(inserted(l, at, "VERSION:2.0", "VERSION:"+value)...), at+1)
			expectFault(t, text(inserted(l, at, "X:y", "VERSION:"+value, "no line")...), at+1)
		}
		expectFault(t, text(inserted(l, at, "VERSION")...), at)
		expectFault(t, text(inserted(l, at, "VERSION;2.0")...), at)
	}
}

func TestTheVersionTwice(t *testing.T) {
	l, places := places()
	for _, first := range places {
		for _, second := range places {
			if second < first {
				continue
			}
			for _, version := range []string{"VERSION:2.0", "version:2.0", "VERSION:1.0"} {
				expectFault(t, text(inserted(inserted(l, second, version), first, "VERSION:2.0")...), second+1)
			}
			expectFault(t, text(inserted(inserted(l, second, "VERSION:2.0"), first, "VERSION:1.0")...), first)
			expectFault(t, text(inserted(inserted(l, second, "X:y", "VERSION:2.0"), first, "Version:2.0", "VERSION:2.0")...), first+1)
		}
	}
	expectFault(t, text("BEGIN:VCALENDAR", "VERSION:2.0", "VERSION:2.0", "VERSION:2.0", "END:VCALENDAR"), 2)
	// The one within an event is none of the calendar's.
	expectFault(t, text(around(joined(inserted(hourLines("a"), 1, "VERSION:2.0"), []string{"VERSION:2.0"})...)...), 9)
}

func TestLinesThatAreNone(t *testing.T) {
	none := []string{"", ":", ":a", "no line", "NO LINE:a", "X", "X;A=1:y", "X_Y:z", "ABCDEFGHIJKLMNOPQRSTU:a", "\u017f:a", "\n", "\r", "\nX:y", "X\n:y", "\t", "\tX:y", "BEGIN", "END", "UID", "VERSION 2.0", "\xff:"}
	l := around(joined(hourLines("a"), fullLines("b"))...)
	for at := range len(l) + 1 {
		for _, line := range none {
			expectFault(t, text(inserted(l, at, line)...), at)
			expectFault(t, text(inserted(l, at, line, line)...), at)
			expectFault(t, text(l[:at]...)+text(line), at)
			if at < len(l) {
				expectFault(t, text(inserted(without(l, at), at, line)...), at)
			}
		}
	}
}

// fault is an event that isn't one, and its first line that can't be accepted.
type fault struct {
	lines []string
	index int
}

// eventFaults are of each kind that an event can have, but that it has no end.
func eventFaults() []fault {
	var out []fault
	add := func(index int, lines ...string) { out = append(out, fault{lines, index}) }
	good := hourLines("x")
	for i := 1; i < 5; i++ {
		add(4, without(good, i)...)
		for at := i + 1; at < 6; at++ {
			add(at, inserted(good, at, good[i])...)
			add(at, inserted(good, at, strings.ToLower(good[i][:3])+good[i][3:])...)
		}
	}
	for _, between := range []string{
		"BEGIN:VEVENT", "begin:vevent", "BEGIN:VALARM", "BEGIN:", "BEGIN:VCALENDAR", "END:VALARM", "END:", "END:VCALENDAR", "END:VEVENTS", "END:VEVENT ", "no line", "", ":", "X_Y:a", "UID;X=1:a",
		"RRULE:FREQ=HOURLY", "RRULE:", "RRULE:FREQ=DAILY;COUNT=0", "EXDATE:", "EXDATE:2000", "EXDATE:20000101T000000,20000101T000000", "EXDATE:" + strings.Repeat("20000101T000000,", 12) + "20000102T000000",
		"SUMMARY:a,b", "SUMMARY:a;b", `SUMMARY:\`, `SUMMARY:\x`, "SUMMARY:a\nb", "SUMMARY:\u00e9", "SUMMARY:" + strings.Repeat("x", 41),
	} {
		for at := 1; at < 6; at++ {
			add(at, inserted(good, at, between)...)
			add(at+1, inserted(good, at, "X:y", between, "SUMMARY:,")...)
		}
	}
	for i, values := range [][]string{
		1: {"", "a b", "a_b", "a,b", "1234567890123", "\u00e9"},
		2: {"", "2000", "20000101T000001", "21000101T000000", "20010229T000000", "20000101"},
		3: {"", "60", "PT60", "pt60m", "PT0M", "PT060M", "PT-1M", "PT10081M", "PT1H"},
		4: {"", "8", "-1", "03", "3,3", "3,", "0,1,2,3,4", "3, 4", "a"},
	} {
		for _, value := range values {
			l := slices.Clone(good)
			l[i] = l[i][:strings.Index(l[i], ":")+1] + value
			add(i, l...)
		}
	}
	for at := 1; at < 6; at++ { // what never comes again can't be left out
		add(6, inserted(good, at, "EXDATE:20000102T103000")...)
	}
	return out
}

func TestEachFaultOfAnEvent(t *testing.T) {
	for _, f := range eventFaults() {
		expectFault(t, text(around(f.lines...)...), 2+f.index)
		expectFault(t, text(joined([]string{"BEGIN:VCALENDAR"}, f.lines, []string{"END:VCALENDAR"})...), 1+f.index)
		expectFault(t, text(around(joined(f.lines, hourLines("a"))...)...), 2+f.index)
		expectFault(t, text(around(joined(f.lines, f.lines)...)...), 2+f.index)
		expectFault(t, text(around(joined(hourLines("a"), f.lines)...)...), 8+f.index)
		expectFault(t, text(around(joined(fullLines("a"), []string{"X:y"}, f.lines, fullLines("b"))...)...), 12+f.index)
		expectFault(t, text(around(joined(hourLines("a"), fullLines("b"), f.lines)...)...), 17+f.index)
		// Nor in a text that is cut off behind it, or that has it as an event whose UID an earlier one has.
		expectFault(t, text(around(joined(hourLines("a"), f.lines[:f.index+1])...)[:8+f.index+1]...), 8+f.index)
		expectFault(t, text(around(joined(hourLines("x"), f.lines)...)...), 8+f.index)
	}
}

func TestEventsWithoutAnEnd(t *testing.T) {
	for n := 1; n < 6; n++ {
		l := hourLines("x")[:n]
		expectFault(t, text(around(l...)[:2+n]...), 2+n)
		expectFault(t, text(around(l...)...), 2+n)
		expectFault(t, text(around(joined(l, hourLines("a"))...)...), 2+n)
		expectFault(t, text(around(joined(hourLines("a"), l)...)[:8+n]...), 8+n)
		expectFault(t, text(around(joined(hourLines("a"), l)...)...), 8+n)
		expectFault(t, text(around(joined(hourLines("a"), l, []string{"X:y", "VERSION:1.0"})...)[:10+n]...), 10+n)
	}
}

func TestTheSameUIDTwice(t *testing.T) {
	small := inserted(without(hourLines("b"), 1), 3, "uid:b", "VERSION:1.0")
	for _, l := range [][]string{hourLines("b"), fullLines("b"), small, inserted(hourLines("b"), 5, "SUMMARY:another one")} {
		end := len(l) - 1
		expectFault(t, text(around(joined(hourLines("b"), l)...)...), 8+end)
		expectFault(t, text(around(joined(fullLines("b"), l)...)...), 11+end)
		expectFault(t, text(around(joined(l, l)...)...), 2+len(l)+end)
		expectFault(t, text(around(joined(l, l, l)...)...), 2+len(l)+end)
		expectFault(t, text(around(joined(hourLines("a"), fullLines("b"), hourLines("c"), l, hourLines("d"))...)...), 23+end)
		expectFault(t, text(around(joined(hourLines("b"), hourLines("a"), l, hourLines("a"))...)...), 14+end)
		expectFault(t, text(around(joined(hourLines("b"), []string{"X:y"}, l, []string{"no line"})...)...), 9+end)
		expectFault(t, text(joined(around(hourLines("b")...)[:8], l)...), 8+end)
		// A line before it that can't be accepted comes first.
		expectFault(t, text(around(joined(hourLines("b"), []string{"no line"}, l)...)...), 8)
		expectFault(t, text(around(joined(hourLines("b"), inserted(l, end, "no line"))...)...), 8+end)
	}
	// Case counts, and what a UID has behind another one too.
	expectEvents(t, text(around(joined(hourLines("b"), hourLines("B"), hourLines("bb"), hourLines("-b"))...)...), 27, hour("b"), hour("B"), hour("bb"), hour("-b"))
	// A UID between events is nobody's.
	expectEvents(t, text(around(joined([]string{"UID:b"}, hourLines("b"), []string{"UID:b"})...)...), 11, hour("b"))
}

func TestOtherEndsOfLines(t *testing.T) {
	for _, l := range [][]string{{"BEGIN:VCALENDAR", "END:VCALENDAR"}, around(hourLines("a")...)} {
		for _, end := range []string{"\n", "\r", "\n\r", " ", "", "\r\r"} {
			expectFault(t, strings.Join(l, end)+end, 0)
			expectFault(t, strings.Join(l, end), 0)
			expectFault(t, strings.Join(l, end)+"\r\n", 0)
			for i := range len(l) - 1 { // one of them alone
				s := text(l[:i+1]...)
				s = strings.TrimSuffix(s, "\r\n") + end + text(l[i+1:]...)
				expectFault(t, s, i)
			}
		}
		// One byte more or less between two lines.
		expectFault(t, strings.Join(l, "\r\n\r\n"), 1)
		expectFault(t, strings.Join(l, "\r\r\n"), 0)
		expectFault(t, strings.Join(l, "\r\n\n"), 1)
		expectFault(t, strings.Join(l, "\r\n\t"), 1)
	}
}

func TestFoldsThatAreNone(t *testing.T) {
	s := text(around(hourLines("a")...)...)
	for at := range len(s) {
		if s[at] == '\n' { // the bytes 13 and 10 are both in the line then, with what the fold leaves of the next one
			expectFault(t, s[:at]+"\r\n "+s[at:], strings.Count(s[:at], "\r\n"))
			continue
		}
		for _, fold := range []string{"\n ", "\r ", "\r\n\t", "\r\r\n ", "\r\n \n", "\n\r "} {
			if err := expectByWords(t, s[:at]+fold+s[at:]); err != api.ErrForm {
				t.Errorf("with %q at %d: %v", fold, at, err)
			}
		}
	}
	expectFault(t, " "+s, 0)
}
