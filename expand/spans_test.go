package expand_test

import (
	"slices"
	"testing"

	"hostelry/api"
	"hostelry/expand"
	"hostelry/rule"
)

// spans gives the span of this length from each minute on.
func spans(long int, l ...int) []api.Span {
	var out []api.Span
	for _, m := range l {
		out = append(out, api.Span{From: m, To: m + long})
	}
	return out
}

func expectSpans(t *testing.T, r api.Rule, start, long int, except []int, want ...int) {
	t.Helper()
	got, err := expand.Spans(r, start, long, except)
	if err != api.OK || !slices.Equal(got, spans(long, want...)) {
		t.Errorf("Spans(%+v, %d, %d, %v) = %v, %v, want %v", r, start, long, except, got, err, spans(long, want...))
	}
}

func expectSpansError(t *testing.T, r api.Rule, start, long int, except []int, want api.Errno) {
	t.Helper()
	if got, err := expand.Spans(r, start, long, except); err != want || len(got) != 0 {
		t.Errorf("Spans(%+v, %d, %d, %v) = %v, %v, want %v", r, start, long, except, got, err, want)
	}
}

// P6.2

func TestSpansOfStarts(t *testing.T) {
	start := minute(t, 2024, 5, 16, 600)
	for _, long := range []int{1, 2, 60, api.Day - 1, api.Day, api.Day + 1, api.MaxLong - 1, api.MaxLong} {
		expectSpans(t, rule.Once(), start, long, nil, start)
		for _, freq := range freqs() {
			for _, r := range []api.Rule{times(each(freq, 1), api.MaxOcc), times(each(freq, 3), 4), until(each(freq, 2), start+100*api.Day)} {
				for _, except := range [][]int{nil, {start}, {start + 7*api.Day, start + 14*api.Day, start + 6*api.Day}} {
					want, err := expand.Starts(r, start, except)
					if err != api.OK {
						expectSpansError(t, r, start, long, except, err)
					} else {
						expectSpans(t, r, start, long, except, want...)
					}
				}
			}
		}
	}
	// One hour each Thursday, and the example of a daily rule.
	expectSpans(t, times(each(api.Weekly, 1), 3), start, 60, nil, inSteps(start, 7*api.Day, 3)...)
	expectSpans(t, times(each(api.Daily, 1), 3), 630, 90, nil, 630, 630+api.Day, 630+2*api.Day)
}

func TestSpansCanOverlap(t *testing.T) {
	for _, long := range []int{api.Day, api.Day + 1, 3 * api.Day, api.MaxLong} {
		expectSpans(t, times(each(api.Daily, 1), 9), 0, long, nil, inSteps(0, api.Day, 9)...)
		expectSpans(t, times(each(api.Daily, 1), 9), 0, long, []int{api.Day}, append([]int{0}, inSteps(2*api.Day, api.Day, 7)...)...)
	}
}

func TestLong(t *testing.T) {
	rules := []api.Rule{rule.Once(), times(each(api.Daily, 1), 3), each(api.Yearly, 100), until(each(api.Weekly, 1), 9*api.Day)}
	for _, r := range rules {
		for _, long := range append(far(), -2, -1, 0, api.MaxLong+1, api.MaxLong+2, api.MaxMinute) {
			expectSpansError(t, r, 600, long, nil, api.ErrLong)
		}
		for _, long := range []int{1, api.MaxLong} {
			if l, err := expand.Spans(r, 600, long, nil); err != api.OK || len(l) == 0 {
				t.Errorf("Spans(%+v, 600, %d) = %v, %v", r, long, l, err)
			}
		}
	}
}

func TestSpansAtTheEnd(t *testing.T) {
	for _, long := range []int{1, 2, 60, api.Day, api.Day + 1, api.MaxLong} {
		start := api.MaxMinute - long // the span ends with the last minute
		for _, r := range []api.Rule{rule.Once(), times(each(api.Daily, 1), 1), each(api.Monthly, 100), until(each(api.Weekly, 1), start)} {
			expectSpans(t, r, start, long, nil, start)
			if long < api.MaxLong {
				expectSpansError(t, r, start, long+1, nil, api.ErrRange)
			}
			if long > 1 {
				expectSpans(t, r, start, long-1, nil, start)
			}
		}
		if long > 1 {
			expectSpansError(t, rule.Once(), start+1, long, nil, api.ErrRange)
			expectSpansError(t, rule.Once(), lastMinute, long, nil, api.ErrRange)
		}
	}
	// The last one of several is enough, and one that is removed is none.
	start := api.MaxMinute - 3*api.Day
	r := each(api.Daily, 1)
	l := inSteps(start, api.Day, 3)
	expectSpans(t, r, start, api.Day, nil, l...)
	expectSpansError(t, r, start, api.Day+1, nil, api.ErrRange)
	expectSpans(t, r, start, api.Day+1, l[2:], l[:2]...)
	expectSpansError(t, r, start, api.Day+1, l[1:2], api.ErrRange)
	expectSpansError(t, r, start, 2*api.Day+1, l[2:], api.ErrRange)
	expectSpans(t, r, start, 3*api.Day, l[1:], l[0])
	expectSpansError(t, r, start, 3*api.Day+1, l[1:], api.ErrRange)
	expectSpans(t, until(r, l[1]), start, 2*api.Day, nil, l[:2]...)
	expectSpans(t, times(r, 2), start, 2*api.Day, nil, l[:2]...)
}

func TestEachErrorOfSpansAlone(t *testing.T) {
	for _, r := range noRules() {
		expectSpansError(t, r, 600, 60, nil, api.ErrRule)
	}
	for _, freq := range freqs() {
		r := each(freq, 1)
		for _, start := range append(far(), -1, api.MaxMinute) {
			expectSpansError(t, times(r, 1), start, 60, nil, api.ErrRange)
			expectSpansError(t, rule.Once(), start, 60, nil, api.ErrRange)
		}
		expectSpansError(t, r, 600, 0, nil, api.ErrLong)
		expectSpansError(t, r, 600, 60, nil, api.ErrMany)
		expectSpansError(t, times(r, 1), 600, 60, []int{600}, api.ErrEmpty)
		expectSpansError(t, r, lastMinute, 2, nil, api.ErrRange)
	}
	for _, r := range noDays() {
		expectSpansError(t, r, 600, 60, nil, api.ErrEmpty)
	}
	expectSpansError(t, rule.Once(), 600, 60, []int{600}, api.ErrEmpty)
}

func TestTheOrderOfErrors(t *testing.T) {
	none, many, empty := noRules(), each(api.Daily, 1), noDays()[0]
	late := []int{lastMinute}
	for _, r := range none {
		expectSpansError(t, r, -1, 60, nil, api.ErrRule)            // and ErrRange
		expectSpansError(t, r, 600, 0, nil, api.ErrRule)            // and ErrLong
		expectSpansError(t, r, lastMinute, 60, nil, api.ErrRule)    // and a span's ErrRange
		expectSpansError(t, r, lastMinute, 60, late, api.ErrRule)   // and ErrEmpty
		expectSpansError(t, r, -1, api.MaxLong+1, nil, api.ErrRule) // and both
	}
	for _, r := range []api.Rule{many, empty, rule.Once()} {
		for _, start := range []int{-1, api.MaxMinute} {
			expectSpansError(t, r, start, 0, nil, api.ErrRange)                      // and ErrLong
			expectSpansError(t, r, start, api.MaxLong+1, []int{start}, api.ErrRange) // and ErrEmpty
			expectSpansError(t, r, start, 60, []int{start}, api.ErrRange)
		}
	}
	for _, long := range []int{0, api.MaxLong + 1} {
		expectSpansError(t, many, 600, long, nil, api.ErrLong)                  // and ErrMany
		expectSpansError(t, empty, 600, long, nil, api.ErrLong)                 // and ErrEmpty
		expectSpansError(t, rule.Once(), 600, long, []int{600}, api.ErrLong)    // and ErrEmpty
		expectSpansError(t, rule.Once(), lastMinute, long, nil, api.ErrLong)    // and a span's ErrRange
		expectSpansError(t, each(api.Daily, 1), 0, long, []int{0}, api.ErrLong) // and ErrMany
	}
	// ErrMany and a span's ErrRange: the last of more than forty days ends too late.
	start := lastMinute - 100*api.Day
	expectSpansError(t, many, start, 2, nil, api.ErrMany)
	expectSpansError(t, many, lastMinute-api.MaxOcc*api.Day, 2, nil, api.ErrMany)
	expectSpansError(t, many, lastMinute-(api.MaxOcc-1)*api.Day, 2, nil, api.ErrRange)
	// ErrMany, though none would be left.
	expectSpansError(t, many, start, 2, inSteps(start, api.Day, 101), api.ErrMany)
	expectError(t, many, start, inSteps(start, api.Day, 101), api.ErrMany)
	// ErrEmpty: what would end too late is removed.
	expectSpansError(t, many, lastMinute, 2, late, api.ErrEmpty)
	expectSpansError(t, rule.Once(), lastMinute, 2, late, api.ErrEmpty)
}
