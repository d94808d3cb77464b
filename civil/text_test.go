package civil_test

import (
	"strings"
	"testing"
	"time"

	"hostelry/api"
	"hostelry/civil"
)

// P1.3

func TestText(t *testing.T) {
	for m, want := range map[int]string{
		0:                 "20000101T000000",
		1:                 "20000101T000100",
		2070:              "20000102T103000",
		59 * api.Day:      "20000229T000000",
		api.MaxMinute - 1: "20991231T235900",
	} {
		if got := civil.Text(m); got != want {
			t.Errorf("Text(%d) = %q, want %q", m, got, want)
		}
	}
}

func TestTextOfNoMinute(t *testing.T) {
	for _, m := range append(far(), -1, api.MaxMinute) {
		if got := civil.Text(m); got != "" {
			t.Errorf("Text(%d) = %q", m, got)
		}
	}
}

func TestParse(t *testing.T) {
	for s, want := range map[string]int{
		"20000101T000000": 0,
		"20000102T103000": 2070,
		"20000229T235900": 60*api.Day - 1,
		"20991231T235900": api.MaxMinute - 1,
	} {
		if got, err := civil.Parse(s); got != want || err != api.OK {
			t.Errorf("Parse(%q) = %d, %v, want %d", s, got, err, want)
		}
	}
}

func TestParseOfNoMinute(t *testing.T) {
	for s, want := range map[string]api.Errno{
		"":                    api.ErrForm,
		"T":                   api.ErrForm,
		"20000101T00000":      api.ErrForm,
		"20000101T0000000":    api.ErrForm,
		"20000101T0000":       api.ErrForm,
		" 20000101T000000":    api.ErrForm,
		"20000101T000000\n":   api.ErrForm,
		"20000101T000001":     api.ErrForm,
		"20000101T000010":     api.ErrForm,
		"20000101t000000":     api.ErrForm,
		"200001010000000":     api.ErrForm,
		"2000010T1000000":     api.ErrForm,
		"200001010T00000":     api.ErrForm,
		"20000101TT00000":     api.ErrForm,
		"2000010aT000000":     api.ErrForm,
		"+2000101T000000":     api.ErrForm,
		"20000101T-10000":     api.ErrForm,
		"20000101T0 0000":     api.ErrForm,
		"2000010\u0661T00000": api.ErrForm, // a digit, but not of one byte
		"\xff0000101T000000":  api.ErrForm,
		"20001301T240001":     api.ErrForm, // ErrForm comes before the errors of Minute
		"20000001T000000":     api.ErrDate,
		"20001301T000000":     api.ErrDate,
		"20000100T000000":     api.ErrDate,
		"20000132T000000":     api.ErrDate,
		"20010229T000000":     api.ErrDate,
		"20000101T240000":     api.ErrDate,
		"20000101T006000":     api.ErrDate,
		"20000101T999900":     api.ErrDate,
		"21000229T000000":     api.ErrDate,
		"00000000T000000":     api.ErrDate,
		"19991231T235900":     api.ErrRange,
		"21000101T000000":     api.ErrRange,
		"21000101T240000":     api.ErrRange,
		"00000101T000000":     api.ErrRange,
		"99991231T235900":     api.ErrRange,
	} {
		if got, err := civil.Parse(s); got != 0 || err != want {
			t.Errorf("Parse(%q) = %d, %v, want %v", s, got, err, want)
		}
	}
}

func TestEachByteOfATextCounts(t *testing.T) {
	s := civil.Text(2070)
	for i := range len(s) {
		for b := range 256 {
			other := s[:i] + string([]byte{byte(b)}) + s[i+1:]
			isDigit := b >= '0' && b <= '9'
			isForm := isDigit && i < 13 && i != 8 || other == s
			if _, err := civil.Parse(other); (err == api.ErrForm) == isForm {
				t.Errorf("Parse(%q): %v", other, err)
			}
		}
	}
}

// P1.4

func TestEachMinuteHasATextOfItsOwn(t *testing.T) {
	first := time.Date(2000, time.January, 1, 0, 0, 0, 0, time.UTC)
	check := func(m int) {
		s := civil.Text(m)
		if want := first.Add(time.Duration(m) * time.Minute).Format("20060102T150405"); s != want {
			t.Fatalf("Text(%d) = %q, want %q", m, s, want)
		}
		if got, err := civil.Parse(s); got != m || err != api.OK {
			t.Fatalf("Parse(%q) = %d, %v, want %d", s, got, err, m)
		}
	}
	for m := range 2 * api.Day {
		check(m)
		check(api.MaxMinute - 1 - m)
	}
	for m := 0; m < api.MaxMinute; m += 397 {
		check(m)
	}
}

func TestNoOtherTextIsTheSameMinute(t *testing.T) {
	for _, m := range []int{0, 2070, 59 * api.Day, api.MaxMinute - 1} {
		s := civil.Text(m)
		for i := range len(s) {
			for b := range 256 {
				other := s[:i] + string([]byte{byte(b)}) + s[i+1:]
				if got, err := civil.Parse(other); err == api.OK && civil.Text(got) != other {
					t.Errorf("Parse(%q) = %d, whose text is %q", other, got, civil.Text(got))
				}
			}
		}
		for _, other := range []string{s + "Z", " " + s, s + " ", strings.ToLower(s), s[:4] + "-" + s[4:], s[:13], s + s} {
			if got, err := civil.Parse(other); err != api.ErrForm {
				t.Errorf("Parse(%q) = %d, %v", other, got, err)
			}
		}
	}
}
