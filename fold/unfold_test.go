package fold_test

import (
	"math/rand"
	"slices"
	"strings"
	"testing"

	"hostelry/api"
	"hostelry/fold"
)

// P8.1: Unfold

func TestUnfoldNothing(t *testing.T) {
	expectUnfold(t, "")
	expectUnfold(t, "\r\n", "")
	expectUnfold(t, "\r\n\r\n", "", "")
	expectUnfold(t, "\r\n\r\n\r\n", "", "", "")
	expectUnfold(t, "\r\n\r\na", "", "", "a")
	expectUnfold(t, "a\r\n\r\n\r\n", "a", "", "")
	expectUnfold(t, "a\r\n\r\nb\r\n", "a", "", "b")
}

func TestUnfoldTheLastLine(t *testing.T) {
	expectUnfold(t, "a", "a")
	expectUnfold(t, "a\r\n", "a")
	expectUnfold(t, "a\r\nb", "a", "b")
	expectUnfold(t, "a\r\nb\r\n", "a", "b")
	expectUnfold(t, "a\r\n b", "ab")
	expectUnfold(t, "a\r\n b\r\n", "ab")
	expectUnfold(t, "a\r\n ", "a")
	expectUnfold(t, "a\r\n \r\n", "a")
	expectUnfold(t, "\r\n ", "")
	expectUnfold(t, "\r\na", "", "a")
}

func TestUnfoldOrdinaryBytes(t *testing.T) {
	for _, s := range []string{
		"\r", "\n", "\n\r", "\r\r", "\n\n", "\n\n\r", "\r\r\r", "\n\r\r", "a\rb", "a\nb", "a\n\rb", "a\r\rb", "a\r b", "a\n b", "\n a", "\r a", "a\n", "a\r",
		"a\n\r", "\r\x00\n", "\r \n", "a\vb", "a\fb", "a\u0085b", "a\u2028b", "a\x00b", "\xff\xfe", "\u00e9", "\u010d\u010a", "\\r\\n", "\x8d\x8a", "BEGIN:VEVENT",
	} {
		expectUnfold(t, s, s)
		expectUnfold(t, s+"\r\n", s)
		expectUnfold(t, "x\r\n "+s, "x"+s)
		expectUnfold(t, "x\r\n:"+s+"\r\ny", "x", ":"+s, "y")
	}
	expectUnfold(t, "\r\r\n", "\r")
	expectUnfold(t, "\r\r\n\n", "\r", "\n")
	expectUnfold(t, "\n\r\n", "\n")
	expectUnfold(t, "\n\r\n\r", "\n", "\r")
	expectUnfold(t, "\r\n\n", "", "\n")
	expectUnfold(t, "\r\n\r", "", "\r")
	expectUnfold(t, "a\r\r\n b", "a\rb")
	expectUnfold(t, "a\n\r\n b", "a\nb")
	expectUnfold(t, "a\r\r\nb", "a\r", "b")
	expectUnfold(t, "a\r\n\nb", "a", "\nb")
}

func TestUnfoldDoesNotSplitWhatComesTogether(t *testing.T) {
	expectUnfold(t, "\r\r\n \n", "\r\n")
	expectUnfold(t, "a\r\r\n \nb", "a\r\nb")
	expectUnfold(t, "a\r\r\n \n b", "a\r\n b")
	expectUnfold(t, "a\r\r\n \n b\r\n c", "a\r\n bc")
	expectUnfold(t, "a\r\r\n \r\n \nb", "a\r\nb")
}

func TestUnfoldTheFirstPiece(t *testing.T) {
	expectUnfold(t, " ", " ")
	expectUnfold(t, "  ", "  ")
	expectUnfold(t, " \r\n", " ")
	expectUnfold(t, " a", " a")
	expectUnfold(t, " a\r\n", " a")
	expectUnfold(t, " a\r\n b", " ab")
	expectUnfold(t, " a\r\nb", " a", "b")
	expectUnfold(t, " \r\n ", " ")
	expectUnfold(t, " \r\n  \r\n  ", "   ")
	expectUnfold(t, "\r\n a", "a")
	expectUnfold(t, "\r\n\r\n a", "", "a")
}

func TestUnfoldPiecesOfBlanks(t *testing.T) {
	expectUnfold(t, "a\r\n \r\nb", "a", "b")
	expectUnfold(t, "a\r\n  \r\nb", "a ", "b")
	expectUnfold(t, "a\r\n   \r\nb", "a  ", "b")
	expectUnfold(t, "a\r\n \r\n \r\n b", "ab")
	expectUnfold(t, "a\r\n  b", "a b")
	expectUnfold(t, "a \r\n b", "a b")
	expectUnfold(t, "a \r\n  b ", "a  b ")
	expectUnfold(t, "a\r\n  ", "a ")
	expectUnfold(t, "a\r\n  \r\n", "a ")
	expectUnfold(t, "a\r\n b c", "ab c")
}

func TestUnfoldOtherWhiteSpace(t *testing.T) {
	for _, space := range []string{"\t", "\v", "\f", "\r", "\n", "\x00", "\u0085", "\u00a0", "\u2003", "\u3000", "\ufeff", "\xa0", "\x85"} {
		expectUnfold(t, "a\r\n"+space+"b", "a", space+"b")
		expectUnfold(t, "a\r\n"+space, "a", space)
		expectUnfold(t, "a\r\n"+space+" b\r\n c", "a", space+" bc")
		expectUnfold(t, "a\r\n "+space+"b", "a"+space+"b")
		expectUnfold(t, space+"b", space+"b")
	}
	for b := range 256 {
		piece := string([]byte{byte(b), 'b'})
		if b == ' ' {
			expectUnfold(t, "a\r\n"+piece, "ab")
		} else {
			expectUnfold(t, "a\r\n"+piece, "a", piece)
		}
	}
}

func TestUnfoldSeveralPieces(t *testing.T) {
	expectUnfold(t, "a\r\n b\r\n c\r\n d", "abcd")
	expectUnfold(t, "a\r\n b\r\n c\r\nd\r\n e\r\nf\r\n", "abc", "de", "f")
	expectUnfold(t, "\r\n a\r\n b\r\n\r\n c\r\nd", "ab", "c", "d")
	expectUnfold(t, "BEGIN:VCAL\r\n ENDAR\r\nVERSION:\r\n 2\r\n .\r\n 0\r\nEND:VCALENDAR\r\n", "BEGIN:VCALENDAR", "VERSION:2.0", "END:VCALENDAR")
}

// unfoldByWords gives by the words of the chapter, byte by byte, what Unfold must answer.
func unfoldByWords(s string) []string {
	pieces := []string{""}
	for i := 0; i < len(s); i++ {
		if s[i] == 13 && i+1 < len(s) && s[i+1] == 10 {
			pieces = append(pieces, "")
			i++
		} else {
			pieces[len(pieces)-1] += s[i : i+1]
		}
	}
	var out []string
	for i, p := range pieces {
		if p == "" && i == len(pieces)-1 {
			continue
		}
		if p != "" && p[0] == ' ' && i > 0 {
			out[len(out)-1] += p[1:]
		} else {
			out = append(out, p)
		}
	}
	return out
}

func TestUnfoldByTheWordsOfTheChapter(t *testing.T) {
	expect := func(s string) {
		if got, want := fold.Unfold(s), unfoldByWords(s); !slices.Equal(got, want) {
			t.Fatalf("Unfold(%q) = %q, want %q", s, got, want)
		}
	}
	eachText(8, []string{"\r", "\n", " ", "a"}, expect)
	eachText(6, []string{"\r\n", "\r\n ", "\r", "\n", " ", "\t", "a"}, expect)
}

func TestUnfoldALongText(t *testing.T) {
	const n = 1_000_000
	expectMany := func(s string, count int, all string) {
		got := fold.Unfold(s)
		if len(got) != count || strings.Join(got, "") != all {
			t.Errorf("a text of %d bytes has %d lines, want %d", len(s), len(got), count)
		}
	}
	expectMany(strings.Repeat("\r\n", n), n, "")
	expectMany(strings.Repeat("\r\n ", n), 1, "")
	expectMany(strings.Repeat(" \r\n", n), 1, " ")
	expectMany(strings.Repeat("a\r\n ", n), 1, strings.Repeat("a", n))
	expectMany(strings.Repeat("ab\r\n", n), n, strings.Repeat("ab", n))
	expectMany(strings.Repeat("\r", n), 1, strings.Repeat("\r", n))
	expectMany(strings.Repeat("\r", n)+"\n", 1, strings.Repeat("\r", n-1))
}

// P8.3

func TestFoldedLinesAreUnfolded(t *testing.T) {
	for _, s := range lineTexts() {
		expectUnfold(t, fold.Fold(s), s)
		expectUnfold(t, fold.Fold(s)+"\r\n", s)
	}
	expectUnfold(t, fold.Fold("")+"\r\n", "")
	for n := 1; n < 1000; n++ {
		expectUnfold(t, fold.Fold(letters(n)), letters(n))
	}
	long := letters(3_000_000)
	if got := fold.Unfold(fold.Fold(long)); len(got) != 1 || got[0] != long {
		t.Errorf("a line of %d bytes becomes %d lines", len(long), len(got))
	}
}

func TestAnEndOfLineWithinALine(t *testing.T) {
	s := letters(api.MaxLine + 10)
	// One that the fold takes apart is no end of line to Unfold, any other one is.
	expectUnfold(t, fold.Fold(put(s, 74, "\r\n")), put(s, 74, "\r\n"))
	for _, i := range []int{0, 1, 72, 73, 75, 76, 82} {
		expectUnfold(t, fold.Fold(put(s, i, "\r\n")), s[:i], s[i+2:])
	}
	expectUnfold(t, fold.Fold(put(s, 83, "\r\n")), s[:83])
}

func TestSeveralFoldedLinesAreUnfolded(t *testing.T) {
	rnd := rand.New(rand.NewSource(8))
	for range 3000 {
		var lines []string
		var text strings.Builder
		for range rnd.Intn(6) {
			line := someLine(rnd)
			if len(lines) > 0 {
				line = strings.TrimLeft(line, " ") // it would go on with the one before it
			}
			lines = append(lines, line)
			text.WriteString(fold.Fold(line) + "\r\n")
		}
		expectUnfold(t, text.String(), lines...)
		if len(lines) > 0 && lines[len(lines)-1] != "" {
			expectUnfold(t, strings.TrimSuffix(text.String(), "\r\n"), lines...)
		}
		if t.Failed() {
			return
		}
	}
}

// someLine gives a line with no end of line in it.
func someLine(rnd *rand.Rand) string {
	signs := []string{"\r", "\n", " ", "  ", "\t", "a", "b", ":", ";", "\u00e9", "\xff", letters(70), letters(75)}
	var line strings.Builder
	for range rnd.Intn(2) * rnd.Intn(60) {
		line.WriteString(signs[rnd.Intn(len(signs))])
	}
	return strings.ReplaceAll(line.String(), "\r\n", "\r:")
}

// The rules of DOC.md.

func TestResultsAreNewMemory(t *testing.T) {
	const text = "a\r\n b\r\nc\r\n\r\nd"
	first, second := fold.Unfold(text), fold.Unfold(text)
	spoil(first)
	if want := []string{"ab", "c", "", "d"}; !slices.Equal(second, want) {
		t.Errorf("what is done with one result changes another: %q", second)
	}
	spoil(second)
	expectUnfold(t, text, "ab", "c", "", "d")
}

// spoil overwrites a list and the memory behind it.
func spoil(l []string) {
	for i := range l[:cap(l)] {
		l[:cap(l)][i] = "spoilt"
	}
}

func TestArgumentsStayAsTheyWere(t *testing.T) {
	for _, s := range []string{"", "a,b;c\\d\ne", `a\,b\;c\\d\ne`, `a\x`, letters(200), "a\r\n b\r\nc\r\n", "\xff\x00\r\n "} {
		bytes := []byte(s)
		fold.Fold(s)
		spoil(fold.Unfold(s))
		fold.Escape(s)
		_, _ = fold.Unescape(s)
		if s != string(bytes) {
			t.Errorf("%q became %q", bytes, s)
		}
	}
}

func TestTheSameAgain(t *testing.T) {
	long := letters(200)
	for range 3 {
		expectFold(t, long, long[:75]+"\r\n "+long[75:149]+"\r\n "+long[149:])
		expectUnfold(t, "a\r\n b\r\nc", "ab", "c")
		expectEscape(t, "a,b", `a\,b`)
		expectNone(t, "a,b")
		expectUnescape(t, `a\,b`, "a,b")
	}
}
