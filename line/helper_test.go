package line_test

import (
	"strings"
	"testing"

	"hostelry/api"
	"hostelry/fold"
	"hostelry/line"
)

const (
	nameBytes  = "ABCDEFGHIJKLMNOPQRSTUVWXYZ0123456789-"
	twoLines   = api.MaxLine + api.MaxLine - 1 // the bytes that fill so many lines
	threeLines = twoLines + api.MaxLine - 1
)

// letters gives so many bytes, of which no two that are near are alike.
func letters(n int) string {
	const some = "abcdefghijklmnopqrstuvwxyzABCDEFGHIJKLMNOPQRSTUVWXYZ0123456789!#$%"
	return strings.Repeat(some, n/len(some)+1)[:n]
}

// name gives a name of so many bytes.
func name(n int) string {
	return strings.Repeat(nameBytes, n/len(nameBytes)+1)[:n]
}

// eachText calls do with each text of up to so many of these signs.
func eachText(most int, signs []string, do func(s string)) {
	var more func(s string, n int)
	more = func(s string, n int) {
		do(s)
		if n == most {
			return
		}
		for _, sign := range signs {
			more(s+sign, n+1)
		}
	}
	more("", 0)
}

// beyond are letters, digits and signs that look or change like those of names,
// some of them under strings.ToUpper only, and bytes that are no letters at all.
func beyond() []string {
	return []string{
		"\u017f", "\u0131", "\u0130", "\u212a", "\u00e9", "\u00c9", "\u00df", "\u0410", "\u0430", "\u0391", "\uff21", "\uff41",
		"\u0660", "\u0966", "\uff11", "\u00b2", "\u00bd", "\u2160", "\u2010", "\u2011", "\u2013", "\u2212", "\u00ad", "\uff0d",
		"\ufeff", "\ufffd", "\U0001f600", "\x80", "\xc1", "\xe1", "\xff", "\xc3", "\xa9",
	}
}

// values are those of lines, of all kinds, with no end of line in them.
func values() []string {
	out := []string{
		"", " ", "  ", "\t", "a", "vevent", "VEVENT", "1:2", ":", "::", ":a", "a:", " :", ": ", " a", "  a", "a ", "\t a", ";", ";a=b:c", "a;b,c", `a\,b\;c\\d\ne`,
		"\r", "\n", "\n\r", "\r\r", "\n\n", "a\rb", "a\nb", "\r a", "\n a", "\x00", "\x7f", "\xff", "\u00e9", "\u017f", "\U0001f600", "\"a\"", "X-A:b",
		letters(1000), strings.Repeat(" ", 300), strings.Repeat(":", 300), strings.Repeat("\r", 300), strings.Repeat("\n", 300), strings.Repeat("\xff", 300),
	}
	for b := range 256 {
		sign := string([]byte{byte(b)})
		out = append(out, sign, sign+sign, sign+"a", "a"+sign, "a"+sign+"b")
	}
	return out
}

func expectName(t *testing.T, s string, want bool) {
	t.Helper()
	if got := line.Name(s); got != want {
		t.Errorf("Name(%q) = %v", s, got)
	}
}

func expectSplit(t *testing.T, s, wantName, wantValue string) {
	t.Helper()
	if name, value, err := line.Split(s); name != wantName || value != wantValue || err != api.OK {
		t.Errorf("Split(%q) = %q, %q, %v, want %q, %q", s, name, value, err, wantName, wantValue)
	}
}

func expectNone(t *testing.T, s string) {
	t.Helper()
	if name, value, err := line.Split(s); name != "" || value != "" || err != api.ErrForm {
		t.Errorf("Split(%q) = %q, %q, %v, want nothing and %v", s, name, value, err, api.ErrForm)
	}
}

func expectJoin(t *testing.T, name, value, want string) {
	t.Helper()
	if got := line.Join(name, value); got != want {
		t.Errorf("Join(%q, %q) = %q, want %q", name, value, got, want)
	}
}

// expectBack expects what is joined to be one line, which is split into the same again.
func expectBack(t *testing.T, name, value string) {
	t.Helper()
	joined := line.Join(name, value)
	for _, text := range []string{joined, joined + "\r\n"} {
		lines := fold.Unfold(text)
		if len(lines) != 1 {
			t.Errorf("%q and %q are joined to the lines %q", name, value, lines)
			continue
		}
		expectSplit(t, lines[0], strings.ToUpper(name), value)
	}
}
