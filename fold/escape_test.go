package fold_test

import (
	"math/rand"
	"regexp"
	"strings"
	"testing"

	"hostelry/api"
	"hostelry/fold"
)

// P8.2: Escape

func TestTheExampleOfTheChapter(t *testing.T) {
	expectEscape(t, "a,b", `a\,b`)
	expectUnescape(t, `a\,b`, "a,b")
}

func TestEscapeEachByte(t *testing.T) {
	for b := range 256 {
		s := string([]byte{byte(b)})
		want := s
		switch b {
		case '\\':
			want = `\\`
		case ';':
			want = `\;`
		case ',':
			want = `\,`
		case 10:
			want = `\n`
		}
		expectEscape(t, s, want)
		expectEscape(t, s+s, want+want)
		expectEscape(t, s+s+s, want+want+want)
		expectEscape(t, s+"abc", want+"abc")
		expectEscape(t, "abc"+s, "abc"+want)
		expectEscape(t, "a"+s+"b", "a"+want+"b")
		expectEscape(t, s+"a"+s, want+"a"+want)
		expectUnescape(t, want, s)
		expectUnescape(t, "a"+want+want+"b"+want, "a"+s+s+"b"+s)
	}
}

func TestEscapeBytesInARow(t *testing.T) {
	for s, want := range map[string]string{
		"":            "",
		`\;`:          `\\\;`,
		`;\`:          `\;\\`,
		`\,`:          `\\\,`,
		",;":          `\,\;`,
		";,":          `\;\,`,
		";\n,":        `\;\n\,`,
		"\\\n":        `\\\n`,
		"\n\\":        `\n\\`,
		"\\;,\n":      `\\\;\,\n`,
		"\n,;\\":      `\n\,\;\\`,
		`\n`:          `\\n`,
		`\N`:          `\\N`,
		`\\n`:         `\\\\n`,
		"\n\\n\n":     `\n\\n\n`,
		"n\\":         `n\\`,
		"\r\n":        "\r" + `\n`,
		"\n\r":        `\n` + "\r",
		"a;b,c\\d\ne": `a\;b\,c\\d\ne`,
		"\u00e9,\xff": "\u00e9" + `\,` + "\xff",
		"\t :\"'/":    "\t :\"'/",
		"\uff0c\uff1b\uff3c\u2028\u0085\u037e\u060c": "\uff0c\uff1b\uff3c\u2028\u0085\u037e\u060c",
	} {
		expectEscape(t, s, want)
		expectUnescape(t, want, s)
	}
}

// P8.2: Unescape

func TestUnescapeEachEscape(t *testing.T) {
	for s, want := range map[string]string{
		"":               "",
		"a":              "a",
		`\\`:             `\`,
		`\;`:             ";",
		`\,`:             ",",
		`\n`:             "\n",
		`\N`:             "\n",
		`\n\N\n`:         "\n\n\n",
		`\NN`:            "\nN",
		`\nn`:            "\nn",
		`nN`:             "nN",
		`\\n`:            `\n`,
		`\\N`:            `\N`,
		`\\\n`:           "\\\n",
		`\\\N`:           "\\\n",
		`\\\\n`:          `\\n`,
		`\\\\N`:          `\\N`,
		`a\;b\,c\\d\Ne`:  "a;b,c\\d\ne",
		"\r":             "\r",
		"\u00e9\xff\x00": "\u00e9\xff\x00",
		`\` + "n\u0301":  "\n\u0301",
	} {
		expectUnescape(t, s, want)
	}
}

func TestUnescapeAMarkAtTheEnd(t *testing.T) {
	for _, before := range []string{"", "a", " ", `\\`, `a\\`, `\\\\`, `\n`, `\,`, `n`, "\xff", letters(100)} {
		expectNone(t, before+`\`)
		expectUnescape(t, before+`\\`, mustUnescape(t, before)+`\`)
		expectNone(t, before+`\\\`)
	}
}

func mustUnescape(t *testing.T, s string) string {
	t.Helper()
	got, err := fold.Unescape(s)
	if err != api.OK {
		t.Fatalf("Unescape(%q): %v", s, err)
	}
	return got
}

func TestUnescapeAMarkBeforeEachByte(t *testing.T) {
	for b := range 256 {
		s := `\` + string([]byte{byte(b)})
		if strings.IndexByte(`\;,nN`, byte(b)) >= 0 {
			continue
		}
		for _, text := range []string{s, "a" + s, s + "a", s + `\`, s + `\n`, `\n` + s, `\\` + s, `a\,` + s + "b"} {
			expectNone(t, text)
		}
		if b != 10 {
			expectUnescape(t, `\`+s, s) // the mark is a byte as any other, and so is what follows it
		}
	}
	for _, s := range []string{`\r`, `\t`, `\a`, `\0`, `\x0a`, `\u000a`, `\ n`, `\ `, `\:`, `\"`, "\\\r\n", "\\\uff0c", "\\\u0149"} {
		expectNone(t, s)
	}
}

func TestUnescapeWhatNeedsAMark(t *testing.T) {
	for _, b := range []string{";", ","} {
		expectNone(t, b)
		expectUnescape(t, `\`+b, b)
		expectNone(t, `\\`+b)
		expectUnescape(t, `\\\`+b, `\`+b)
		expectNone(t, `\\\\`+b)
	}
	// A byte 10 is escaped as a letter, and never stands behind a mark itself.
	for n := range 5 {
		expectNone(t, strings.Repeat(`\`, n)+"\n")
	}
	for _, b := range []string{";", ",", "\n"} {
		for _, s := range []string{b + "a", "a" + b, "a" + b + "b", b + b, b + `\` + b, `\;` + b, `\,` + b, `\n` + b, `\N` + b, b + `\`, b + `\x`, letters(100) + b, b + letters(100), "\r" + b, "\u00e9" + b} {
			expectNone(t, s)
		}
	}
	for _, b := range []string{";", ","} {
		expectNone(t, `\`+b+b)
		expectUnescape(t, `\`+b+`\`+b, b+b)
	}
}

// escapedForm is by the words of the chapter what Unescape may accept, over
// texts with one byte a sign.
var escapedForm = regexp.MustCompile(`\A(?:[^\\;,\n]|\\[\\;,nN])*\z`)

// unescapeByWords gives by the words of the chapter what Unescape must answer.
func unescapeByWords(s string) (string, api.Errno) {
	if !escapedForm.MatchString(s) {
		return "", api.ErrForm
	}
	plain := regexp.MustCompile(`\\.`).ReplaceAllStringFunc(s, func(escape string) string {
		if escape == `\n` || escape == `\N` {
			return "\n"
		}
		return escape[1:]
	})
	return plain, api.OK
}

func TestUnescapeByTheWordsOfTheChapter(t *testing.T) {
	count := map[api.Errno]int{}
	eachText(6, []string{`\`, ";", ",", "\n", "n", "N", "a"}, func(s string) {
		want, wantErr := unescapeByWords(s)
		count[wantErr]++
		if got, err := fold.Unescape(s); got != want || err != wantErr {
			t.Fatalf("Unescape(%q) = %q, %v, want %q, %v", s, got, err, want, wantErr)
		}
	})
	if count[api.OK] < 1000 || count[api.ErrForm] < 1000 {
		t.Errorf("%v: too few of one kind", count)
	}
}

// P8.3

func TestEscapedTextsAreUnescaped(t *testing.T) {
	escaped := map[string]string{}
	eachText(5, []string{`\`, ";", ",", "\n", "n", "N", "a", "\r"}, func(s string) {
		text := fold.Escape(s)
		if other, ok := escaped[text]; ok {
			t.Fatalf("%q and %q are both escaped as %q", s, other, text)
		}
		escaped[text] = s
		expectUnescape(t, text, s)
	})
	// Of texts without an \N, those and no others are escaped forms.
	eachText(5, []string{`\`, ";", ",", "\n", "n", "a", "\r"}, func(text string) {
		if s, ok := escaped[text]; ok {
			expectUnescape(t, text, s)
		} else {
			expectNone(t, text)
		}
	})
}

func TestLongTextsAreUnescaped(t *testing.T) {
	rnd := rand.New(rand.NewSource(82))
	for range 3000 {
		s := make([]byte, rnd.Intn(200))
		for i := range s {
			s[i] = byte(rnd.Intn(256))
			if rnd.Intn(2) == 0 {
				s[i] = "\\;,\nnN\r "[rnd.Intn(8)]
			}
		}
		expectUnescape(t, fold.Escape(string(s)), string(s))
	}
	for _, one := range []string{`\`, ";", ",", "\n", "n", "\xff"} {
		s := strings.Repeat(one, 1_000_000)
		if got, err := fold.Unescape(fold.Escape(s)); got != s || err != api.OK {
			t.Errorf("%d times %q become %d bytes, %v", len(s), one, len(got), err)
		}
	}
}

func TestEscapedThenFolded(t *testing.T) {
	s := strings.Repeat("a,b;c\\d\ne\r", 50)
	lines := fold.Unfold(fold.Fold(fold.Escape(s)))
	if len(lines) != 1 {
		t.Fatalf("%d lines", len(lines))
	}
	expectUnescape(t, lines[0], s)
}
