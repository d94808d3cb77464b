package fold_test

import (
	"strings"
	"testing"

	"hostelry/api"
	"hostelry/fold"
)

// P8.1: Fold

func TestFoldWhatIsNotTooLong(t *testing.T) {
	for n := range api.MaxLine + 1 {
		expectFold(t, letters(n), letters(n))
	}
	for _, s := range []string{
		"", "a", " ", "  ", "\r", "\n", "\r\n", "\r\n ", "\n\r", "\r\n\r\n", " a", "a ", " a ", "a\r\nb", "a\r\n b", "\x00", "\xff", "\u00e9",
		strings.Repeat(" ", api.MaxLine-1), strings.Repeat(" ", api.MaxLine), strings.Repeat("\u00e9", 37), strings.Repeat("\u20ac", 25), strings.Repeat("\r\n ", 25),
	} {
		expectFold(t, s, s)
	}
}

func TestFoldAtEachNumberOfLines(t *testing.T) {
	s := letters(300)
	for n, want := range map[int]string{
		1:              s[:1],
		74:             s[:74],
		75:             s[:75],
		76:             s[:75] + "\r\n " + s[75:76],
		77:             s[:75] + "\r\n " + s[75:77],
		twoLines - 1:   s[:75] + "\r\n " + s[75:148],
		twoLines:       s[:75] + "\r\n " + s[75:149],
		twoLines + 1:   s[:75] + "\r\n " + s[75:149] + "\r\n " + s[149:150],
		twoLines + 2:   s[:75] + "\r\n " + s[75:149] + "\r\n " + s[149:151],
		threeLines - 1: s[:75] + "\r\n " + s[75:149] + "\r\n " + s[149:222],
		threeLines:     s[:75] + "\r\n " + s[75:149] + "\r\n " + s[149:223],
		threeLines + 1: s[:75] + "\r\n " + s[75:149] + "\r\n " + s[149:223] + "\r\n " + s[223:224],
		297:            s[:75] + "\r\n " + s[75:149] + "\r\n " + s[149:223] + "\r\n " + s[223:297],
		300:            s[:75] + "\r\n " + s[75:149] + "\r\n " + s[149:223] + "\r\n " + s[223:297] + "\r\n " + s[297:300],
	} {
		expectFold(t, s[:n], want)
	}
}

func TestFoldBlanks(t *testing.T) {
	s := letters(151)
	for _, c := range []struct {
		i      int
		blanks string
	}{
		{0, " "}, {0, "   "}, {73, " "}, {74, " "}, {75, " "}, {76, " "}, {74, "  "}, {73, "    "}, {75, "  "},
		{148, " "}, {149, " "}, {148, "  "}, {150, " "}, {149, "  "}, {0, strings.Repeat(" ", 151)}, {74, "\t"}, {75, "\t"}, {75, "\u00a0"},
	} {
		line := put(s, c.i, c.blanks)
		expectFold(t, line, line[:75]+"\r\n "+line[75:149]+"\r\n "+line[149:])
	}
	expectFold(t, letters(75)+" ", letters(75)+"\r\n  ")
	expectFold(t, " "+letters(75), " "+letters(74)+"\r\n "+letters(75)[74:])
}

func TestFoldEndsOfLines(t *testing.T) {
	s := letters(151)
	for _, end := range []string{"\r", "\n", "\r\n", "\n\r", "\r\n ", "\r\r\n", "\r\n\r\n", "\r\n \r\n "} {
		for i := range len(s) - len(end) + 1 {
			line := put(s, i, end)
			expectFold(t, line, line[:75]+"\r\n "+line[75:149]+"\r\n "+line[149:])
		}
	}
	// What is folded, folded again, has no ends of lines any more but bytes as others.
	expectFold(t, letters(75)+"\r\n "+letters(2), letters(75)+"\r\n \r\n "+letters(2))
}

func TestFoldCountsBytes(t *testing.T) {
	expectFold(t, strings.Repeat("\u00e9", 38), strings.Repeat("\u00e9", 37)+"\xc3\r\n \xa9")
	expectFold(t, strings.Repeat("\u20ac", 26), strings.Repeat("\u20ac", 25)+"\r\n \u20ac")
	expectFold(t, "a"+strings.Repeat("\u20ac", 25), "a"+strings.Repeat("\u20ac", 24)+"\xe2\x82\r\n \xac")
	expectFold(t, letters(74)+"\U0001f600", letters(74)+"\xf0\r\n \x9f\x98\x80")
	expectFold(t, strings.Repeat("\xff", 80), strings.Repeat("\xff", 75)+"\r\n "+strings.Repeat("\xff", 5))
	expectFold(t, strings.Repeat("\x00", 80), strings.Repeat("\x00", 75)+"\r\n "+strings.Repeat("\x00", 5))
	for b := range 256 {
		s := strings.Repeat(string([]byte{byte(b)}), twoLines+1)
		expectFold(t, s, s[:75]+"\r\n "+s[75:149]+"\r\n "+s[149:])
	}
}

// foldByWords gives by the words of the chapter what Fold must answer: where
// each byte of s comes to stand.
func foldByWords(s string) string {
	breaks := func(i int) int { return max(i-1, 0) / (api.MaxLine - 1) }
	if len(s) <= api.MaxLine {
		return s
	}
	out := []byte(strings.Repeat("?", len(s)+len("\r\n ")*breaks(len(s)-1)))
	for i := range len(s) {
		place := i + len("\r\n ")*breaks(i)
		if i > 0 && breaks(i) > breaks(i-1) {
			copy(out[place-3:], "\r\n ")
		}
		out[place] = s[i]
	}
	return string(out)
}

func TestFoldByTheWordsOfTheChapter(t *testing.T) {
	for n := range 1000 {
		expectFold(t, letters(n), foldByWords(letters(n)))
	}
	for _, s := range lineTexts() {
		expectFold(t, s, foldByWords(s))
	}
}

func TestEachLineIsFull(t *testing.T) {
	for n := range 1000 {
		l := strings.Split(fold.Fold(letters(n)), "\r\n")
		for i, line := range l {
			if len(line) > api.MaxLine || i < len(l)-1 && len(line) < api.MaxLine || i > 0 && (line[0] != ' ' || len(line) == 1) {
				t.Errorf("%d bytes, line %d: %q", n, i, line)
			}
		}
	}
}

func TestFoldALongLine(t *testing.T) {
	s := letters(3_000_000)
	if got := fold.Fold(s); got != foldByWords(s) {
		t.Errorf("%d bytes are folded to %d bytes", len(s), len(got))
	}
}
