package scribe_test

import (
	"slices"
	"strconv"
	"strings"
	"testing"

	"hostelry/api"
	"hostelry/deed"
	"hostelry/scribe"
)

// P15.2: Read of what is no line at all

func TestTheExampleOfTheChapter(t *testing.T) {
	expectSpoilt(t, "")
}

func TestReadOfShortTexts(t *testing.T) {
	for a := range 256 {
		expectSpoilt(t, string([]byte{byte(a)}))
		for b := range 256 {
			expectSpoilt(t, string([]byte{byte(a), byte(b)}))
		}
	}
	signs := " 0123456789-+_.ax\n\r\t\x00\x7f\x80\xff"
	for a := range len(signs) {
		for b := range len(signs) {
			for c := range len(signs) {
				short := string([]byte{signs[a], signs[b], signs[c]})
				expectSpoilt(t, short)
				expectOwn(t, short+" 3 1")
			}
		}
	}
}

func TestReadOfLongTexts(t *testing.T) {
	line := lineOf(t, great(api.DGive))
	for _, s := range []string{
		strings.Repeat("1 ", 4001), strings.Repeat("1", 8001), strings.Repeat(" ", 8001), strings.Repeat("0 ", 1_000_000), strings.Repeat("-", 1_000_000),
		strings.Repeat(line, 3), strings.Repeat(line+" ", 100), line + strings.Repeat(" ", 8000), strings.Repeat(" ", 8000) + line, line + strings.Repeat(" 0", 8000),
		strings.Repeat("\x00", 8001), strings.Repeat("\xff", 1_000_000), strings.Repeat("\n", 8001), strings.Repeat("9", 1_000_000) + " 1 1",
	} {
		expectSpoilt(t, s)
		expectSpoilt(t, s[:8000])
		expectSpoilt(t, s[:8001])
	}
}

func TestReadOfOtherTexts(t *testing.T) {
	for _, s := range []string{
		"DCancel 3 1", "4 3 1", "[4,3,1]", `{"Kind":4}`, "BEGIN:VEVENT", "hello", "h\u00e9", "\u65e5\u672c", "\ufeff", "\xff\xfe", "\x80 \x80 \x80", "0 0 0", "5 0 4 3 1", "-1 -1 -1",
		"5 300809056 7 3", "1 1", "  ", "   ", " 1 1 1 ", "18446744073709551616 1 1", "5  3 3 1", "nil", "NaN", "1e1 1 1", "0x5 0x1 3 3 1",
	} {
		expectSpoilt(t, s)
	}
	for _, d := range deeds() {
		s := lineOf(t, d)
		for b := range 256 { // anything before it, behind it or within it
			sign := string([]byte{byte(b)})
			expectSpoilt(t, sign+s)
			expectSpoilt(t, s+sign)
			expectSpoilt(t, sign+s+sign)
			expectSpoilt(t, s[:len(s)/2]+sign+sign+s[len(s)/2:])
			expectSpoilt(t, strings.ReplaceAll(s, " ", sign+sign))
			if sign != " " {
				expectSpoilt(t, strings.ReplaceAll(s, " ", sign))
			}
		}
		for _, sign := range []string{"\r\n", "\n\n", "  ", " 0", "0 ", "\u00a0", "\ufeff", "//", ", ", " \n"} {
			expectSpoilt(t, sign+s)
			expectSpoilt(t, s+sign)
			expectSpoilt(t, sign+s+sign)
		}
		for _, other := range deeds() {
			for _, between := range []string{"", " ", "\n", "\r\n", "  "} {
				expectSpoilt(t, s+between+lineOf(t, other))
			}
		}
	}
}

// Each half of one line with each half of another one.
func TestReadOfHalves(t *testing.T) {
	for i, d := range deeds() {
		for j, other := range deeds() {
			a, b := strings.Fields(lineOf(t, d)), strings.Fields(lineOf(t, other))
			for n := range min(len(a), len(b)) {
				s := strings.Join(slices.Concat(a[:n], b[n:]), " ")
				expectOwn(t, s)
				if i != j && n > 2 && !slices.Equal(a[:n], b[:n]) && !slices.Equal(a[n:], b[n:]) {
					expectSpoilt(t, s)
				}
			}
		}
	}
}

// P15.2: Read of lines in which something is written in another way

func TestNumbersInAnotherForm(t *testing.T) {
	for _, d := range deeds() {
		line := lineOf(t, d)
		words := strings.Split(line, " ")
		for i, w := range words {
			if i > 40 && i < len(words)-40 {
				continue
			}
			for _, other := range otherForms(w) {
				changed := slices.Clone(words)
				changed[i] = other
				expectSpoilt(t, strings.Join(changed, " "))
				if i >= 2 { // and if whoever wrote that knew how to seal it
					expectSpoilt(t, scribe.Sealed(strings.Join(changed[2:], " ")))
				}
			}
		}
	}
}

// otherForms are ways to write a number, in which it is never written.
func otherForms(word string) []string {
	out := []string{
		"+" + word, "0" + word, "00" + word, "-0" + word, "+0" + word, "--" + word, word + "-", word + "+", word + ".", word + ".0", word + "e0", "0x" + word, "0b" + word, "0o" + word,
		word + "_", "_" + word, word[:1] + "_" + word[1:], "'" + word + "'", `"` + word + `"`, word + "\t", "\t" + word, word + "\x00", word + " ", " " + word, "", " ", "x", word + "x",
		strings.Map(wide, word), strings.Map(eastern, word), word + "\u00a0", "\u2212" + word, strings.Replace(word, "-", "\u2212", 1) + "\u200b",
		"9223372036854775808", "-9223372036854775809", "18446744073709551616", strings.Repeat("9", 400),
	}
	if n, err := strconv.ParseUint(word, 10, 64); err == nil {
		out = append(out, strconv.FormatUint(n+1<<63, 10)+"0", "0x"+strconv.FormatUint(n, 16))
	}
	return out
}

// wide gives another letter for the same digit.
func wide(r rune) rune {
	if r >= '0' && r <= '9' {
		return r - '0' + '\uff10'
	}
	return r + 0xfee0
}

// eastern gives another letter for the same digit.
func eastern(r rune) rune {
	if r >= '0' && r <= '9' {
		return r - '0' + '\u0660'
	}
	return '\u066b'
}

// P15.2: Read of lines that are well written, but not of a deed

func TestLinesOfWhatIsNoDeed(t *testing.T) {
	for _, d := range noDeeds() {
		s := scribe.Sealed(scribe.Written(d))
		if deed.Is(only(d.Kind, d)) { // what its kind does not use is not written
			expectOwn(t, s)
			continue
		}
		expectSpoilt(t, s)
	}
	for _, text := range []string{
		"", " ", "0", "9", "-1", "4", "4 3", "4 3 1 0", "4 3 1 ", " 4 3 1", "4  3 1", "3 0 0", "3 1 4", "3 -1 0", "3 1000001 0", "7 0", "7 0 0", "7 4 1", "7 0 1 0", "5 0 1", "5 0 1 0", "6 0 1 -1",
		"5 0 1 1 0 0", "5 0 1 1", "5 0 1 1 0 0 0", "5 0 1 1 0 1 0", "5 0 1 1 8 0 1", "5 0 1 2 0 0 1", "5 0 1 1 0 0 1 0 2 3", "5 0 1 2 0 0 1 0 1 2", "5 0 1 2 0 2 3 0 0 1", "5 0 1 9223372036854775807 0 0 1", "5 0 1 -9223372036854775808",
		"1 1 0", "1 1 0 0", "1 1 0 1 45", "1 1 0 1 45 0 0 1 1 0 0 0 0 -1 0 0 0", "1 1 0 1 45 0 0 1 1 0 0 0 0 -1 0 0 0 0 0", "1 1 0 1 301 0 0 1 1 0 0 0 0 -1 0 0 0 0", "1 1 0 1 -211 0 0 1 1 0 0 0 0 -1 0 0 0 0",
		"1 1 0 9223372036854775807 45 0 0 1 1 0 0 0 0 -1 0 0 0 0", "8 0 1 1 0 2", "8 0 1",
	} {
		expectSpoilt(t, scribe.Sealed(text))
	}
	expectOwn(t, scribe.Sealed("4 3 1"))
	if got, err := scribe.Read(scribe.Sealed("4 3 1")); err != api.OK || !deed.Same(got, api.Deed{Kind: api.DCancel, ID: id(3, 1)}) {
		t.Errorf("what is well written is not read: %+v, %v", got, err)
	}
}

// The line of each deed, sealed again after each word is missing, there twice,
// of another value, or at another place.
func TestWordsThatAreNotTheOnes(t *testing.T) {
	for _, d := range deeds() {
		words := strings.Split(scribe.Written(d), " ")
		sealed := func(l ...string) string { return scribe.Sealed(strings.Join(l, " ")) }
		for i, w := range words {
			if i > 120 && i < len(words)-20 {
				continue
			}
			expectOwn(t, sealed(slices.Delete(slices.Clone(words), i, i+1)...))
			expectOwn(t, sealed(slices.Insert(slices.Clone(words), i, w)...))
			expectSpoilt(t, sealed(words[:i]...))
			for _, other := range []string{"-1", "0", "1", "2", "8", "9", "12", "13", "40", "41", "160", "161", "1000001", "4294967296", "-9223372036854775808", "9223372036854775807"} {
				changed := slices.Clone(words)
				changed[i] = other
				expectOwn(t, sealed(changed...))
			}
			if i > 0 {
				changed := slices.Clone(words)
				changed[i-1], changed[i] = changed[i], changed[i-1]
				expectOwn(t, sealed(changed...))
			}
		}
		expectSpoilt(t, sealed(append(words, "0")...))
		expectSpoilt(t, sealed(append(words, words...)...))
		expectSpoilt(t, scribe.Sealed(lineOf(t, d)))
	}
}
