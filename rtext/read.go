package rtext

import (
	"cmp"
	"slices"
	"strconv"
	"strings"

	"hostelry/api"
	"hostelry/civil"
	"hostelry/rule"
)

// partsOf splits a text. Beyond one part more than there are names nothing is
// told apart: one of so many is wrong in any case, and a long text needs no room.
func partsOf(s string) []string {
	return strings.SplitN(s, betweenParts, nameCount+1)
}

// elementsOf splits the value of a list, up to one element more than a list may have.
func elementsOf(value string) []string {
	return strings.SplitN(value, betweenElements, api.MaxList+1)
}

// read gives what the parts say together, and whether each of them says
// something of its own. Whether it is a rule remains to be asked.
func read(parts ...string) (api.Rule, bool) {
	r := rule.Once()
	r.Every = 1 // what it is if nothing is said; and so without a FREQ it is no rule, not even Once
	names := make([]string, 0, len(parts))
	for _, p := range parts {
		name, value, ok := strings.Cut(p, afterName)
		if !ok || slices.Contains(names, name) || !take(&r, name, value) {
			return api.Rule{}, false
		}
		names = append(names, name)
	}
	return r, true
}

// take gives the rule the value of a part, and reports whether it is one.
func take(r *api.Rule, name, value string) (ok bool) {
	switch name {
	case freqName:
		r.Freq, ok = freqOf(value)
	case everyName:
		r.Every, ok = positive(value)
	case countName:
		r.Count, ok = positive(value)
	case untilName:
		r.Until, ok = minute(value)
	case byMonthName:
		r.ByMonth, ok = sorted(number, cmp.Compare[int], elementsOf(value)...)
	case byMonthDayName:
		r.ByMonthDay, ok = sorted(number, cmp.Compare[int], elementsOf(value)...)
	case byDayName:
		r.ByDay, ok = sorted(weekday, compareWeekdays, elementsOf(value)...)
	}
	return ok
}

// sorted gives the elements that the texts are of, in the order of a rule's
// lists, and whether each is one. Two that are alike stay, and make it no rule.
func sorted[E any](element func(text string) (E, bool), compare func(a, b E) int, texts ...string) ([]E, bool) {
	out := make([]E, 0, len(texts))
	for _, text := range texts {
		e, ok := element(text)
		if !ok {
			return nil, false
		}
		out = append(out, e)
	}
	slices.SortFunc(out, compare)
	return out, true
}

// number reads a number that is written as Go writes it: Atoi alone would
// take a + and leading zeros too.
func number(text string) (int, bool) {
	n, err := strconv.Atoi(text)
	if err != nil || strconv.Itoa(n) != text {
		return 0, false
	}
	return n, true
}

func positive(text string) (int, bool) {
	n, ok := number(text)
	return n, ok && n > 0
}

func minute(text string) (int, bool) {
	m, err := civil.Parse(text)
	return m, err == api.OK
}

// weekday reads a weekday, which ends with its word.
func weekday(text string) (api.Weekday, bool) {
	for day, word := range weekdayWords() {
		before, ok := strings.CutSuffix(text, word)
		if !ok {
			continue
		}
		n, ok := position(before)
		return api.Weekday{N: n, Day: day}, ok
	}
	return api.Weekday{}, false
}

// position reads the number before a weekday, which may be missing.
func position(text string) (int, bool) {
	if text == "" {
		return 0, true
	}
	n, ok := number(text)
	return n, ok && n != 0
}

func compareWeekdays(a, b api.Weekday) int {
	return cmp.Or(cmp.Compare(a.N, b.N), cmp.Compare(a.Day, b.Day))
}
