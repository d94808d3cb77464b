package fold_test

import (
	"slices"
	"strings"
	"testing"

	"hostelry/api"
	"hostelry/fold"
)

const (
	twoLines   = api.MaxLine + api.MaxLine - 1 // the bytes that fill so many lines
	threeLines = twoLines + api.MaxLine - 1
)

// letters gives so many bytes, of which no two that are near are alike.
func letters(n int) string {
	const some = "abcdefghijklmnopqrstuvwxyzABCDEFGHIJKLMNOPQRSTUVWXYZ0123456789!#$%"
	return strings.Repeat(some, n/len(some)+1)[:n]
}

// put gives s with other bytes from the i-th on.
func put(s string, i int, bytes string) string {
	return s[:i] + bytes + s[i+len(bytes):]
}

// eachText calls do with each text of up to so many of these signs.
func eachText(most int, signs []string, do func(s string)) {
	var more func(s string, n int)
	more = func(s string, n int) {
		do(s)
		if n == most {
			return
		}
		for _, sign := range signs {
			more(s+sign, n+1)
		}
	}
	more("", 0)
}

// lineTexts are lines of all kinds and lengths, with no end of line in them.
func lineTexts() []string {
	var out []string
	for n := 1; n <= threeLines+2; n++ {
		s := letters(n)
		out = append(out, s, strings.Repeat(" ", n), strings.Repeat("\r", n), strings.Repeat("\n", n), strings.Repeat("\xff", n))
		for _, i := range []int{0, 73, 74, 75, 76, 147, 148, 149, 150, 222, 223, n - 2, n - 1} {
			if i < 0 || i >= n {
				continue
			}
			out = append(out, put(s, i, " "), put(s, i, "\t"), put(s, i, "\r"), put(s, i, "\n"), put(s, i, "\x00"), put(s, i, ":"))
			if i+2 <= n {
				out = append(out, put(s, i, "  "), put(s, i, "\n\r"), put(s, i, "\r\r"), put(s, i, "\n "), put(s, i, "\r "), put(s, i, "\u00e9"))
			}
		}
	}
	return out
}

func expectFold(t *testing.T, s, want string) {
	t.Helper()
	if got := fold.Fold(s); got != want {
		t.Errorf("Fold(%q) = %q, want %q", s, got, want)
	}
}

func expectUnfold(t *testing.T, s string, want ...string) {
	t.Helper()
	if got := fold.Unfold(s); !slices.Equal(got, want) {
		t.Errorf("Unfold(%q) = %q, want %q", s, got, want)
	}
}

func expectEscape(t *testing.T, s, want string) {
	t.Helper()
	if got := fold.Escape(s); got != want {
		t.Errorf("Escape(%q) = %q, want %q", s, got, want)
	}
}

func expectUnescape(t *testing.T, s, want string) {
	t.Helper()
	if got, err := fold.Unescape(s); got != want || err != api.OK {
		t.Errorf("Unescape(%q) = %q, %v, want %q", s, got, err, want)
	}
}

func expectNone(t *testing.T, s string) {
	t.Helper()
	if got, err := fold.Unescape(s); got != "" || err != api.ErrForm {
		t.Errorf("Unescape(%q) = %q, %v, want nothing and %v", s, got, err, api.ErrForm)
	}
}
