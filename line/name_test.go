package line_test

import (
	"regexp"
	"strings"
	"testing"

	"hostelry/line"
)

// P9.1: Name

func TestNameAtEachLength(t *testing.T) {
	expectName(t, "", false)
	for n := 1; n <= 100; n++ {
		for _, s := range []string{name(n), strings.Repeat("A", n), strings.Repeat("Z", n), strings.Repeat("0", n), strings.Repeat("9", n), strings.Repeat("-", n)} {
			expectName(t, s, n <= 20)
		}
	}
	expectName(t, name(1_000_000), false)
	// The bytes are counted, not the letters that they make.
	expectName(t, strings.Repeat("\u00e9", 10), false)
	expectName(t, strings.Repeat("\u00e9", 20), false)
}

func TestNameOfEachByte(t *testing.T) {
	for b := range 256 {
		s := string([]byte{byte(b)})
		want := strings.Contains(nameBytes, s)
		for _, text := range []string{
			s, s + s, s + "A", "A" + s, "A" + s + "B", "X-" + s + "9", strings.Repeat(s, 20),
			s + name(18), name(18) + s, name(9) + s + name(9), s + name(19), name(19) + s, name(10) + s + name(9),
		} {
			expectName(t, text, want)
		}
		for _, text := range []string{s + name(20), name(20) + s, name(10) + s + name(10), strings.Repeat(s, 21)} {
			expectName(t, text, false)
		}
	}
}

func TestNamesOfCalendars(t *testing.T) {
	for _, s := range []string{"BEGIN", "END", "VERSION", "UID", "SUMMARY", "DTSTART", "DURATION", "RRULE", "EXDATE", "X-ROOMS", "A", "0", "-", "--", "-A", "A-", "2", "20-20"} {
		expectName(t, s, true)
		if small := strings.ToLower(s); small != s {
			expectName(t, small, false)
		}
		for _, more := range []string{" ", "\t", "\r", "\n", "\r\n", "\x00", ":", ";", "=", ",", ".", "_", "+", "/", "a"} {
			expectName(t, s+more, false)
			expectName(t, more+s, false)
		}
	}
	for _, s := range []string{"begin", "Begin", "BEGIn", "bEGIN", "x-ROOMS", "BEGIN:VEVENT", "DTSTART;VALUE=DATE", "X_ROOMS", "@", "[", "`", "{", "/", "."} {
		expectName(t, s, false)
	}
}

func TestNamesBeyondASCII(t *testing.T) {
	for _, s := range beyond() {
		for _, text := range []string{s, s + "A", "A" + s, "A" + s + "B", name(20-len(s)) + s, s + name(20-len(s))} {
			expectName(t, text, false)
		}
	}
}

// nameForm is by the words of the chapter what a name is.
var nameForm = regexp.MustCompile(`\A[A-Z0-9-]{1,20}\z`)

func TestNameByTheWordsOfTheChapter(t *testing.T) {
	for _, before := range []string{"", "A", name(14), name(15), name(16), name(17), name(18), name(19), name(20)} {
		eachText(4, []string{"A", "Z", "0", "9", "-", "a", "z", "@", "[", "/", ":", "\u017f", "\xff", "\n"}, func(s string) {
			expectName(t, before+s, nameForm.MatchString(before+s))
			if t.Failed() {
				t.FailNow()
			}
		})
	}
}

// The rules of DOC.md.

func TestTheSameAgain(t *testing.T) {
	long := letters(100)
	for range 3 {
		expectName(t, "X-ROOMS", true)
		expectName(t, "x-rooms", false)
		expectSplit(t, "x-Rooms:1:2", "X-ROOMS", "1:2")
		expectNone(t, "x Rooms:1:2")
		expectJoin(t, "A", long, "A:"+long[:73]+"\r\n "+long[73:])
	}
}

func TestArgumentsStayAsTheyWere(t *testing.T) {
	for _, s := range []string{"", "a", "begin", "begin:vevent", "x-Rooms:1:2", ":a", "a:", letters(200), "b:" + letters(200), "\xff\x00:\r\n "} {
		bytes := []byte(s)
		line.Name(s)
		_, _, _ = line.Split(s)
		line.Join(s, s)
		if s != string(bytes) {
			t.Errorf("%q became %q", bytes, s)
		}
	}
}
