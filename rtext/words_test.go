package rtext_test

import (
	"math/big"
	"math/rand"
	"regexp"
	"slices"
	"sort"
	"strings"
	"testing"
	"time"

	"hostelry/api"
	"hostelry/rtext"
	"hostelry/rule"
)

// The words of the chapter, as a pattern: what a text may consist of.
const (
	numberForm  = `(?:0|-?[1-9][0-9]*)`
	weekdayForm = `(?:(?:-?[1-9][0-9]*)?(?:MO|TU|WE|TH|FR|SA|SU))`
	partForm    = `(?:FREQ=(?:DAILY|WEEKLY|MONTHLY|YEARLY)` +
		`|(?:INTERVAL|COUNT)=[1-9][0-9]*` +
		`|UNTIL=[0-9]{8}T[0-9]{4}00` +
		`|(?:BYMONTH|BYMONTHDAY)=` + numberForm + `(?:,` + numberForm + `)*` +
		`|BYDAY=` + weekdayForm + `(?:,` + weekdayForm + `)*)`
)

var textForm = regexp.MustCompile(`\A` + partForm + `(?:;` + partForm + `)*\z`)

// parseByWords gives by the words of the chapter what Parse must answer.
func parseByWords(s string) (api.Rule, api.Errno) {
	if !textForm.MatchString(s) {
		return api.Rule{}, api.ErrRule
	}
	values := map[string]string{}
	parts := strings.Split(s, ";")
	for _, p := range parts {
		pair := strings.SplitN(p, "=", 2)
		values[pair[0]] = pair[1]
	}
	freq := slices.Index([]string{"", "DAILY", "WEEKLY", "MONTHLY", "YEARLY"}, values["FREQ"])
	if len(values) < len(parts) || freq == 0 {
		return api.Rule{}, api.ErrRule
	}
	r := api.Rule{Freq: freq, Every: 1, Until: -1}
	if v, ok := values["INTERVAL"]; ok {
		r.Every = near(v)
	}
	if v, ok := values["COUNT"]; ok {
		r.Count = near(v)
	}
	if v, ok := values["UNTIL"]; ok {
		r.Until = minuteOf(v)
	}
	r.ByMonth, r.ByMonthDay = nearAll(values["BYMONTH"]), nearAll(values["BYMONTHDAY"])
	for _, text := range elements(values["BYDAY"]) {
		r.ByDay = append(r.ByDay, weekdayOf(text))
	}
	sort.Slice(r.ByDay, func(i, k int) bool {
		return r.ByDay[i].N*7+r.ByDay[i].Day < r.ByDay[k].N*7+r.ByDay[k].Day
	})
	if !rule.Is(r) {
		return api.Rule{}, api.ErrRule
	}
	return r, api.OK
}

// near gives a number, or one that is far from all that a rule may have.
func near(text string) int {
	n, _ := new(big.Int).SetString(text, 10)
	if n.CmpAbs(big.NewInt(1<<30)) > 0 {
		return n.Sign() << 30
	}
	return int(n.Int64())
}

// minuteOf gives a minute by Go's own calendar, or one that a rule can't have.
func minuteOf(text string) int {
	d, err := time.Parse("20060102T150405", text)
	if err != nil || d.Year() < 2000 || d.Year() > 2099 {
		return -2
	}
	return int(d.Sub(time.Date(2000, time.January, 1, 0, 0, 0, 0, time.UTC)) / time.Minute)
}

func nearAll(value string) []int {
	var out []int
	for _, text := range elements(value) {
		out = append(out, near(text))
	}
	sort.Ints(out)
	return out
}

func elements(value string) []string {
	if value == "" {
		return nil
	}
	return strings.Split(value, ",")
}

func weekdayOf(text string) api.Weekday {
	word := text[len(text)-2:]
	w := api.Weekday{Day: slices.Index([]string{"MO", "TU", "WE", "TH", "FR", "SA", "SU"}, word)}
	if len(text) > 2 {
		w.N = near(text[:len(text)-2])
	}
	return w
}

// someRule gives a rule with all kinds of parts.
func someRule(rnd *rand.Rand) api.Rule {
	for {
		r := each(1 + rnd.Intn(4))
		if rnd.Intn(2) == 0 {
			r.Every = 1 + rnd.Intn(100)
		}
		switch rnd.Intn(3) {
		case 0:
			r.Count = 1 + rnd.Intn(api.MaxOcc)
		case 1:
			r.Until = rnd.Intn(api.MaxMinute)
		}
		r.ByMonth = some(rnd, 12, func() int { return 1 + rnd.Intn(12) })
		r.ByMonthDay = some(rnd, 12, func() int { return rnd.Intn(63) - 31 })
		n := rnd.Intn(2) * 5
		for _, k := range some(rnd, 12, func() int { return rnd.Intn((2*n+1)*7) - n*7 }) {
			r.ByDay = append(r.ByDay, nth((k+n*7)/7-n, (k+n*7)%7))
		}
		if rule.Is(r) {
			return r
		}
	}
}

// some gives a list of up to so many elements, ascending; it is often empty.
func some(rnd *rand.Rand, most int, one func() int) []int {
	var out []int
	if rnd.Intn(2) == 0 {
		for range rnd.Intn(most + 1) {
			out = append(out, one())
		}
	}
	sort.Ints(out)
	return slices.Compact(out)
}

// P7.3

func TestManyRules(t *testing.T) {
	rnd := rand.New(rand.NewSource(7))
	seen := map[string]api.Rule{}
	for range 40000 {
		r := someRule(rnd)
		text := rtext.Print(r)
		expectRule(t, text, r)
		if other, ok := seen[text]; ok && !rule.Same(r, other) {
			t.Fatalf("%+v and %+v have both the text %q", r, other, text)
		}
		seen[text] = r
		if want, err := parseByWords(text); err != api.OK || !rule.Same(want, r) {
			t.Fatalf("the words of the chapter read %q as %+v, %v", text, want, err)
		}
	}
}

// P7.2

// shuffled gives the text with its parts and their elements in some order.
func shuffled(rnd *rand.Rand, text string) string {
	parts := strings.Split(text, ";")
	for i, p := range parts {
		name, value, _ := strings.Cut(p, "=")
		l := strings.Split(value, ",")
		rnd.Shuffle(len(l), func(i, k int) { l[i], l[k] = l[k], l[i] })
		parts[i] = name + "=" + strings.Join(l, ",")
	}
	rnd.Shuffle(len(parts), func(i, k int) { parts[i], parts[k] = parts[k], parts[i] })
	return strings.Join(parts, ";")
}

func TestManyOrders(t *testing.T) {
	rnd := rand.New(rand.NewSource(72))
	for range 40000 {
		r := someRule(rnd)
		expectRule(t, shuffled(rnd, rtext.Print(r)), r)
	}
}

// pieces are what a text is spoilt with, and sometimes mended.
func pieces() []string {
	return []string{
		";", "=", ",", "-", "+", "0", "1", "2", "3", "9", "40", " ", "\n", "\x00", "\xff", "\u0661", "T", "M", "O", "f",
		"MO", "1TU", "-1WE", "0TH", "5FR", "SA", "SU", "FREQ", "FREQ=DAILY", ";INTERVAL=1", ";COUNT=3", "UNTIL=", "20000102T103000",
		";BYMONTH=1", "BYMONTHDAY=", "BYDAY=", ",1", ",-1", ",MO", "DAY", "MONTHLY", "YEARLY", "WEEKLY",
	}
}

// changed gives the text with some of it cut out and something put there.
func changed(rnd *rand.Rand, text string) string {
	from := rnd.Intn(len(text) + 1)
	to := min(len(text), from+[]int{0, 0, 1, 1, 2, rnd.Intn(20)}[rnd.Intn(6)])
	piece := ""
	if rnd.Intn(3) > 0 {
		piece = pieces()[rnd.Intn(len(pieces()))]
	}
	return text[:from] + piece + text[to:]
}

func TestManyTexts(t *testing.T) {
	rnd := rand.New(rand.NewSource(71))
	count := map[api.Errno]int{}
	for range 200000 {
		text := shuffled(rnd, rtext.Print(someRule(rnd)))
		for range 1 + rnd.Intn(3) {
			text = changed(rnd, text)
		}
		want, wantErr := parseByWords(text)
		count[wantErr]++
		got, err := rtext.Parse(text)
		if err != wantErr || !rule.Same(got, want) {
			t.Fatalf("Parse(%q) = %+v, %v, want %+v, %v", text, got, err, want, wantErr)
		}
		if err == api.OK {
			expectRule(t, rtext.Print(got), got)
		}
	}
	if count[api.OK] < 5000 || count[api.ErrRule] < 5000 {
		t.Errorf("%v: too few of one kind", count)
	}
}

func TestEachTextThatIsNearlyOne(t *testing.T) {
	for _, text := range []string{
		"FREQ=WEEKLY;BYDAY=MO,WE",
		"FREQ=MONTHLY;INTERVAL=2;COUNT=9;BYMONTHDAY=-1,7",
		"BYDAY=-1FR,2SU;UNTIL=20000102T103000;BYMONTH=12;FREQ=YEARLY",
	} {
		for i := range len(text) + 1 {
			nearly := []string{text[:i], text[i:]}
			for b := range 256 {
				nearly = append(nearly, text[:i]+string([]byte{byte(b)})+text[i:])
				if i < len(text) {
					nearly = append(nearly, text[:i]+string([]byte{byte(b)})+text[i+1:])
				}
			}
			if i < len(text) {
				nearly = append(nearly, text[:i]+text[i+1:])
			}
			for _, s := range nearly {
				want, wantErr := parseByWords(s)
				if got, err := rtext.Parse(s); err != wantErr || !rule.Same(got, want) {
					t.Errorf("Parse(%q) = %+v, %v, want %+v, %v", s, got, err, want, wantErr)
				}
			}
		}
	}
}
