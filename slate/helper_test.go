package slate_test

import (
	"slices"
	"strings"
	"testing"

	"hostelry/api"
	"hostelry/slate"
)

// list is short for the literals of the tables.
func list(l ...string) []string {
	return l
}

// text gives the bytes of these lines.
func text(lines ...string) string {
	out := ""
	for _, l := range lines {
		out += l + "\n"
	}
	return out
}

// linesOf gives the lines of a text by the words of the chapter, byte by byte.
func linesOf(text string) []string {
	var out []string
	from := 0
	for i := range len(text) {
		if text[i] == 10 {
			out = append(out, text[from:i])
			from = i + 1
		}
	}
	return out
}

// wholeOf gives a text up to its last byte 10.
func wholeOf(text string) string {
	for text != "" && text[len(text)-1] != 10 {
		text = text[:len(text)-1]
	}
	return text
}

// everyByte gives all bytes that there are, once each.
func everyByte() string {
	out := make([]byte, 256)
	for i := range out {
		out[i] = byte(i)
	}
	return string(out)
}

// otherBytes are all that a line may have.
func otherBytes() string {
	return strings.ReplaceAll(everyByte(), "\n", "")
}

// off gives a slate with these bytes whose power is off.
func off(t *testing.T, text string) *slate.Slate {
	t.Helper()
	s := slate.Of(text)
	s.Limit(0)
	expectWrite(t, s, list("lost"), api.ErrPower)
	expect(t, s, text, false)
	return s
}

// expect fails unless a slate has just these bytes, and power or not.
func expect(t *testing.T, s *slate.Slate, text string, on bool) {
	t.Helper()
	for range 2 { // asking changes nothing
		if got := s.Text(); got != text {
			t.Errorf("Text = %.200q, want %.200q", got, text)
		}
		if got, want := s.Lines(), linesOf(text); !slices.Equal(got, want) {
			t.Errorf("Lines of %.200q = %.200q, want %.200q", text, got, want)
		}
		if got := s.On(); got != on {
			t.Errorf("On with %.200q is %v", text, got)
		}
	}
}

// expectWrite fails unless writing these lines answers this.
func expectWrite(t *testing.T, s *slate.Slate, l []string, want api.Errno) {
	t.Helper()
	if got := s.Write(l); got != want {
		t.Errorf("Write(%.200q) = %v, want %v", l, got, want)
	}
}

// expectLimit fails unless a slate has power for just so many more bytes. It uses
// them up, so that the power is off afterwards.
func expectLimit(t *testing.T, s *slate.Slate, left int) {
	t.Helper()
	was := s.Text()
	if !s.On() {
		t.Errorf("the power of %.200q is off", was)
	}
	expectWrite(t, s, list(strings.Repeat("z", left)), api.ErrPower)
	expect(t, s, was+strings.Repeat("z", left), false)
}

// expectEndless fails unless a slate has power and no limit.
func expectEndless(t *testing.T, s *slate.Slate) {
	t.Helper()
	was := s.Text()
	if !s.On() {
		t.Errorf("the power of %.200q is off", was)
	}
	long := strings.Repeat("endless ", 200)
	for range 2 {
		expectWrite(t, s, list(long, "", long), api.OK)
		was += text(long, "", long)
	}
	expect(t, s, was, true)
}
