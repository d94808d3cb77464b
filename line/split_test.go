package line_test

import (
	"regexp"
	"strings"
	"testing"

	"hostelry/api"
	"hostelry/line"
)

// P9.1: Split

func TestTheExamplesOfTheChapter(t *testing.T) {
	expectSplit(t, "x-Rooms:1:2", "X-ROOMS", "1:2")
	expectSplit(t, "begin:vevent", "BEGIN", "vevent")
}

func TestSplitWhereThereIsNoName(t *testing.T) {
	for _, s := range []string{"", ":", "::", ":::", ":a", ":A", ":A:B", "::A", ": A:B", ":" + letters(200), " :", " :a", "\t:a", "\r\n:a", "\x00:a"} {
		expectNone(t, s)
	}
}

func TestSplitWhereThereIsNoColon(t *testing.T) {
	for _, s := range []string{
		"A", "a", "BEGIN", "begin", "BEGIN VEVENT", "BEGIN;VEVENT", "BEGIN=VEVENT", " ", "\r\n", "-", "0", name(19), name(20), name(21), letters(200), strings.Repeat("A", 1_000_000),
		"BEGIN\uff1aVEVENT", "BEGIN\ua789VEVENT", "BEGIN\u2236VEVENT", "BEGIN\xbaVEVENT",
	} {
		expectNone(t, s)
	}
}

func TestSplitAtTheFirstColon(t *testing.T) {
	expectSplit(t, "A:", "A", "")
	expectSplit(t, "A:b", "A", "b")
	expectSplit(t, "A::", "A", ":")
	expectSplit(t, "A:::", "A", "::")
	expectSplit(t, "A::b", "A", ":b")
	expectSplit(t, "A:b:", "A", "b:")
	expectSplit(t, "A:b:c", "A", "b:c")
	expectSplit(t, "A:b:c:d:e", "A", "b:c:d:e")
	expectSplit(t, "A:"+strings.Repeat(":", 1000), "A", strings.Repeat(":", 1000))
	expectSplit(t, "DTSTART:20000102T103000", "DTSTART", "20000102T103000")
}

func TestSplitNamesOfLetters(t *testing.T) {
	for s, want := range map[string]string{
		"begin": "BEGIN", "BEGIN": "BEGIN", "Begin": "BEGIN", "bEGIN": "BEGIN", "begiN": "BEGIN", "bEgIn": "BEGIN", "x-rooms": "X-ROOMS", "X-rOOMS": "X-ROOMS", "x": "X", "-": "-", "-a-": "-A-",
		"a1b2": "A1B2", "0": "0", "9z": "9Z", "abcdefghijklm": "ABCDEFGHIJKLM", "nopqrstuvwxyz": "NOPQRSTUVWXYZ", "ABCDEFGHIJKLM": "ABCDEFGHIJKLM", "NOPQRSTUVWXYZ": "NOPQRSTUVWXYZ", "0123456789-": "0123456789-",
	} {
		for _, value := range []string{"", "b", "vEvEnT", "begin", "begin:END", "x-rooms:x-rooms"} {
			expectSplit(t, s+":"+value, want, value)
		}
	}
}

func TestSplitNamesAtEachLength(t *testing.T) {
	for n := range 100 {
		for _, s := range []string{name(n), strings.ToLower(name(n)), strings.Repeat("a", n), strings.Repeat("-", n)} {
			for _, value := range []string{"", "b", "b:c", letters(100)} {
				if n < 1 || n > 20 {
					expectNone(t, s+":"+value)
				} else {
					expectSplit(t, s+":"+value, strings.ToUpper(s), value)
				}
			}
		}
	}
	expectNone(t, strings.Repeat("a", 1_000_000)+":b")
	// The colon counts only if it is within the first twenty-one bytes.
	expectSplit(t, strings.Repeat("a", 20)+":", strings.Repeat("A", 20), "")
	expectNone(t, strings.Repeat("a", 21)+":")
}

func TestSplitNamesOfEachByte(t *testing.T) {
	for b := range 256 {
		s := string([]byte{byte(b)})
		if b == ':' {
			continue // it ends the name
		}
		great := s
		if b >= 'a' && b <= 'z' {
			great = string([]byte{byte(b - 32)})
		}
		for _, text := range [][2]string{
			{s, great}, {s + "a", great + "A"}, {"a" + s, "A" + great}, {"a" + s + "B", "A" + great + "B"}, {strings.Repeat(s, 20), strings.Repeat(great, 20)},
			{s + name(19), great + name(19)}, {name(19) + s, name(19) + great}, {name(10) + s + name(9), name(10) + great + name(9)},
		} {
			if strings.Contains(nameBytes, great) {
				expectSplit(t, text[0]+":b", text[1], "b")
			} else {
				expectNone(t, text[0]+":b")
				expectNone(t, text[0]+":")
			}
		}
		for _, text := range []string{s + name(20), name(20) + s, name(10) + s + name(10)} {
			expectNone(t, text+":b")
		}
	}
}

func TestSplitNamesThatAreNone(t *testing.T) {
	for _, s := range []string{
		" BEGIN:VEVENT", "BEGIN :VEVENT", "BE GIN:VEVENT", "\tBEGIN:VEVENT", "BEGIN\t:VEVENT", "\r\nBEGIN:VEVENT", "BEGIN\r\n :VEVENT", "BEGIN\r\n:VEVENT", "BEGIN\n:VEVENT", "BEGIN\x00:VEVENT",
		"DTSTART;VALUE=DATE:20000102", "X_ROOMS:1", "X.ROOMS:1", "X+ROOMS:1", "X,ROOMS:1", "X/ROOMS:1", "\"BEGIN\":VEVENT", "@:1", "[:1", "`:1", "{:1", "BEGIN;:VEVENT",
	} {
		expectNone(t, s)
	}
}

func TestSplitNamesBeyondASCII(t *testing.T) {
	for _, s := range beyond() {
		for _, text := range []string{s, s + "a", "a" + s, "a" + s + "B", name(20-len(s)) + s, s + name(20-len(s))} {
			expectNone(t, text+":b")
			expectNone(t, text+":")
		}
		// In a value it is as good as any.
		expectSplit(t, "a:"+s, "A", s)
		expectSplit(t, "a:"+s+":"+s, "A", s+":"+s)
	}
}

func TestSplitValuesOfAllKinds(t *testing.T) {
	for _, value := range append(values(), "\r\n", "\r\n ", "\r\n a", "a\r\n b", "a\r\nb", "a\r\n", " \r\n ", strings.Repeat("\r\n ", 100), letters(1_000_000)) {
		expectSplit(t, "A:"+value, "A", value)
		expectSplit(t, "x-rooms:"+value, "X-ROOMS", value)
		expectSplit(t, strings.Repeat("z", 20)+":"+value, strings.Repeat("Z", 20), value)
		expectNone(t, ":"+value)
		expectNone(t, "x rooms:"+value)
	}
}

// lineForm is by the words of the chapter what a line is.
var lineForm = regexp.MustCompile(`(?s)\A([A-Za-z0-9-]{1,20}):(.*)\z`)

func TestSplitByTheWordsOfTheChapter(t *testing.T) {
	count := map[api.Errno]int{}
	for _, before := range []string{"", "a", name(17), name(18), name(19), name(20)} {
		eachText(5, []string{":", "A", "z", "0", "-", ";", " ", "\n", "\xff"}, func(s string) {
			s = before + s
			var wantName, wantValue string
			wantErr := api.ErrForm
			if m := lineForm.FindStringSubmatch(s); m != nil {
				wantName, wantValue, wantErr = strings.ToUpper(m[1]), m[2], api.OK
			}
			count[wantErr]++
			if name, value, err := line.Split(s); name != wantName || value != wantValue || err != wantErr {
				t.Fatalf("Split(%q) = %q, %q, %v, want %q, %q, %v", s, name, value, err, wantName, wantValue, wantErr)
			}
		})
	}
	if count[api.OK] < 1000 || count[api.ErrForm] < 1000 {
		t.Errorf("%v: too few of one kind", count)
	}
}
