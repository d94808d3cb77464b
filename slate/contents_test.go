package slate_test

import (
	"slices"
	"strings"
	"testing"

	"hostelry/api"
	"hostelry/slate"
)

// P16.1: New, Of, Text and Lines

func TestNew(t *testing.T) {
	s := slate.New()
	expect(t, s, "", true)
	if l := s.Lines(); len(l) != 0 {
		t.Errorf("Lines = %q", l)
	}
	expectEndless(t, s)
	expect(t, slate.New(), "", true) // each one is new
	s = slate.New()
	s.Limit(3)
	expectLimit(t, s, 3)
}

func TestOf(t *testing.T) {
	long := strings.Repeat("0123456789", 100000)
	for _, c := range []struct {
		text  string
		lines []string
	}{
		{"", nil},
		{"\n", list("")},
		{"\n\n", list("", "")},
		{"\n\n\n\n", list("", "", "", "")},
		{"a\n", list("a")},
		{"a\nbc\n", list("a", "bc")},
		{"a\n\nbc\n", list("a", "", "bc")},
		{"\na\n\n\nbc\n\n", list("", "a", "", "", "bc", "")},
		{"b\na\nb\n", list("b", "a", "b")}, // in the order in which they stand, and twice
		{"a", nil},                         // a torn end alone
		{"abc", nil},
		{"a\nb", list("a")},
		{"\nb", list("")},
		{"\n\nb", list("", "")},
		{"a\nbc\ndef", list("a", "bc")},
		{" a \n b\n ", list(" a ", " b")},
		{" ", nil},
		{"\x00", nil},
		{"\x00\n\x00", list("\x00")},
		{"a\r\nb\r\n\r\n\r", list("a\r", "b\r", "\r")},
		{"a\rb\n", list("a\rb")},
		{"\xff\xfe\n\x80", list("\xff\xfe")},
		{"ä\n\u2028\n\u0085\n\v\f\n", list("ä", "\u2028", "\u0085", "\v\f")}, // no ends of lines but the byte 10
		{"\x0a\x8a\x0a", list("", "\x8a")},
		{"\u010a\u0a0a\n", list("\u010a\u0a0a")}, // numbers with a 10 in them, but not as a byte
		{everyByte(), list("\x00\x01\x02\x03\x04\x05\x06\x07\x08\x09")},
		{text(otherBytes(), otherBytes()), list(otherBytes(), otherBytes())},
		{long, nil},
		{text(long, "", long) + long, list(long, "", long)},
	} {
		s := slate.Of(c.text)
		expect(t, s, c.text, true)
		if got := s.Lines(); !slices.Equal(got, c.lines) {
			t.Errorf("Lines of %.200q = %.200q, want %.200q", c.text, got, c.lines)
		}
		expectEndless(t, s)
	}
}

// The texts of up to six of the bytes that count.
func TestOfAllShortTexts(t *testing.T) {
	texts := list("")
	for i := 0; i < len(texts) && len(texts[i]) < 6; i++ {
		for _, b := range list("\n", "\r", "\x00", "a", "\xff") {
			texts = append(texts, texts[i]+b)
		}
	}
	for _, text := range texts {
		s := slate.Of(text)
		expect(t, s, text, true)
		s.Rise()
		expect(t, s, wholeOf(text), true)
		if t.Failed() {
			return
		}
	}
}

func TestOfEachByte(t *testing.T) {
	for b := range 256 {
		one := string([]byte{byte(b)})
		for _, text := range list(one, one+"\n", "\n"+one, "a"+one+"b\n"+one+one) {
			expect(t, slate.Of(text), text, true)
		}
	}
}

// Of of what was written is equal to what was written to.
func TestOfTextOfASlate(t *testing.T) {
	s := slate.New()
	expectWrite(t, s, list("a", "", otherBytes()), api.OK)
	s.Limit(2)
	expectWrite(t, s, list("bcd"), api.ErrPower)
	other := slate.Of(s.Text())
	expect(t, other, text("a", "", otherBytes())+"bc", true)
	expect(t, s, text("a", "", otherBytes())+"bc", false)
	s.Rise()
	other.Rise()
	expect(t, s, text("a", "", otherBytes()), true)
	expect(t, other, text("a", "", otherBytes()), true)
}
