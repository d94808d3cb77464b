package event_test

import (
	"math/rand"
	"slices"
	"strings"
	"testing"

	"hostelry/api"
	"hostelry/rule"
)

// P10.1: Is

func TestEventsOfAllKinds(t *testing.T) {
	for _, e := range events() {
		expectIs(t, e, true)
	}
	for _, e := range noEvents() {
		expectIs(t, e, false)
	}
}

func TestUIDAtEachLength(t *testing.T) {
	for n := range 100 {
		for _, s := range []string{"a", "z", "A", "Z", "0", "9", "-"} {
			e := with(hour(), func(e *api.Event) { e.UID = strings.Repeat(s, n) })
			expectIs(t, e, n >= 1 && n <= api.MaxUID)
		}
	}
	expectIs(t, with(hour(), func(e *api.Event) { e.UID = strings.Repeat("a", 1_000_000) }), false)
	// The bytes are counted, not the letters that they make.
	expectIs(t, with(hour(), func(e *api.Event) { e.UID = strings.Repeat("\u00e9", 6) }), false)
}

func TestUIDOfEachByte(t *testing.T) {
	for b := range 256 {
		want := b >= 'a' && b <= 'z' || b >= 'A' && b <= 'Z' || b >= '0' && b <= '9' || b == '-'
		for _, s := range byteTexts(b) {
			expectIs(t, with(hour(), func(e *api.Event) { e.UID = s }), want)
		}
		for at := range api.MaxUID {
			uid := []byte("Az0-Zy9x-12B")
			uid[at] = byte(b)
			expectIs(t, with(hour(), func(e *api.Event) { e.UID = string(uid) }), want)
			expectIs(t, with(hour(), func(e *api.Event) { e.UID = string(uid) + "a" }), false)
		}
	}
	for _, s := range beyond() {
		for _, uid := range []string{s, s + "a", "a" + s, "a" + s + "b"} {
			expectIs(t, with(hour(), func(e *api.Event) { e.UID = uid }), false)
		}
	}
}

func TestTextAtEachLength(t *testing.T) {
	for n := range 100 {
		for _, s := range []string{"a", " ", "~", "\n", ",", `\`} {
			e := with(hour(), func(e *api.Event) { e.Text = strings.Repeat(s, n) })
			expectIs(t, e, n <= api.MaxText)
		}
	}
	expectIs(t, with(hour(), func(e *api.Event) { e.Text = strings.Repeat("a", 1_000_000) }), false)
	expectIs(t, with(hour(), func(e *api.Event) { e.Text = strings.Repeat("\u00e9", 20) }), false)
}

func TestTextOfEachByte(t *testing.T) {
	for b := range 256 {
		want := b >= 32 && b <= 126 || b == 10
		for _, s := range byteTexts(b) {
			expectIs(t, with(hour(), func(e *api.Event) { e.Text = s }), want)
		}
		for at := range api.MaxText {
			text := []byte(strings.Repeat("x", api.MaxText))
			text[at] = byte(b)
			expectIs(t, with(hour(), func(e *api.Event) { e.Text = string(text) }), want)
			expectIs(t, with(hour(), func(e *api.Event) { e.Text = string(text) + "a" }), false)
		}
	}
	for _, s := range beyond() {
		for _, text := range []string{s, s + "a", "a" + s, "a" + s + "b"} {
			expectIs(t, with(hour(), func(e *api.Event) { e.Text = text }), false)
		}
	}
}

func TestStartAtItsEdges(t *testing.T) {
	for _, e := range events() {
		for _, start := range []int{0, 1, api.Day - 1, api.Day, lastMinute - 1, lastMinute} {
			expectIs(t, with(e, func(e *api.Event) { e.Start = start }), true)
		}
		for _, start := range append(far(), -2, -1, api.MaxMinute) {
			expectIs(t, with(e, func(e *api.Event) { e.Start = start }), false)
		}
	}
}

func TestLongAtItsEdges(t *testing.T) {
	for _, e := range events() {
		// That it ends after the last minute is not asked.
		for _, long := range []int{1, 2, 60, api.MaxLong - 1, api.MaxLong} {
			expectIs(t, with(e, func(e *api.Event) { e.Long = long }), true)
		}
		for _, long := range append(far(), -1, 0, api.MaxLong+1) {
			expectIs(t, with(e, func(e *api.Event) { e.Long = long }), false)
		}
	}
}

func TestRoomsOfAllKinds(t *testing.T) {
	eachList(5, []int{-1, 0, 1, 2, 6, 7, 8}, func(l []int) {
		e := with(hour(), func(e *api.Event) { e.Rooms = l })
		expectIs(t, e, isByWords(e))
	})
	for _, room := range far() {
		expectIs(t, with(hour(), func(e *api.Event) { e.Rooms = []int{room} }), false)
		expectIs(t, with(hour(), func(e *api.Event) { e.Rooms = []int{room, 3} }), false)
		expectIs(t, with(hour(), func(e *api.Event) { e.Rooms = []int{3, room} }), false)
	}
	for room := range api.MaxRoom {
		expectIs(t, with(hour(), func(e *api.Event) { e.Rooms = []int{room} }), true)
	}
	for _, l := range [][]int{{0, 1, 2, 3}, {4, 5, 6, 7}, {0, 7}, {0, 2, 4, 6}} {
		expectIs(t, with(hour(), func(e *api.Event) { e.Rooms = l }), true)
	}
	for _, l := range [][]int{nil, {}, {0, 1, 2, 3, 4}, {0, 1, 2, 3, 4, 5, 6, 7}, {7, 6}, {3, 3}, {0, 1, 1}, {0, 0, 1}, {0, 2, 1}} {
		expectIs(t, with(hour(), func(e *api.Event) { e.Rooms = l }), false)
	}
}

func TestRulesOfAllKinds(t *testing.T) {
	expectIs(t, with(hour(), func(e *api.Event) { e.Rule = rule.Once() }), true)
	for freq := -1; freq <= 6; freq++ {
		e := with(hour(), func(e *api.Event) { e.Rule = api.Rule{Freq: freq, Every: 1, Until: -1} })
		expectIs(t, e, freq >= api.Daily && freq <= api.Yearly)
	}
	for _, r := range noRules() {
		expectIs(t, with(hour(), func(e *api.Event) { e.Rule = r }), false)
		expectIs(t, with(full(), func(e *api.Event) { e.Rule = r }), false)
	}
	// Whether the rule ever comes is not asked.
	expectIs(t, with(hour(), func(e *api.Event) { e.Rule = daily(); e.Rule.Until = 0 }), true)
}

func TestExceptOfAllKinds(t *testing.T) {
	eachList(3, []int{-1, 0, 1, 2070, lastMinute - 1, lastMinute, api.MaxMinute}, func(l []int) {
		for _, r := range []api.Rule{daily(), rule.Once()} {
			e := with(hour(), func(e *api.Event) { e.Rule, e.Except = r, l })
			expectIs(t, e, isByWords(e))
		}
	})
	for n := range 30 {
		l := minutes(n)
		expectIs(t, with(hour(), func(e *api.Event) { e.Rule, e.Except = daily(), l }), n <= api.MaxList)
		expectIs(t, with(hour(), func(e *api.Event) { e.Except = l }), n == 0)
	}
	for _, m := range far() {
		expectIs(t, with(full(), func(e *api.Event) { e.Except = []int{m} }), false)
		expectIs(t, with(full(), func(e *api.Event) { e.Except = []int{5, m} }), false)
		expectIs(t, with(full(), func(e *api.Event) { e.Except = []int{m, 5} }), false)
	}
	for _, freq := range []int{api.Daily, api.Weekly, api.Monthly, api.Yearly} {
		expectIs(t, with(hour(), func(e *api.Event) { e.Rule.Freq, e.Rule.Every, e.Except = freq, 1, []int{7} }), true)
	}
	// An empty list is as good as none, in the event and in its rule.
	expectIs(t, with(hour(), func(e *api.Event) { e.Except, e.Rule.ByDay = []int{}, []api.Weekday{} }), true)
	for at := range api.MaxList - 1 {
		expectIs(t, with(full(), func(e *api.Event) { e.Except[at] = e.Except[at+1] }), false)
		expectIs(t, with(full(), func(e *api.Event) { e.Except[at], e.Except[at+1] = e.Except[at+1], e.Except[at] }), false)
	}
}

func TestIsByTheWordsOfTheChapter(t *testing.T) {
	rnd := rand.New(rand.NewSource(10))
	count := map[bool]int{}
	for range 30000 {
		e := someEvent(rnd)
		for range rnd.Intn(3) {
			spoil(rnd, &e)
		}
		want := isByWords(e)
		count[want]++
		expectIs(t, e, want)
		if t.Failed() {
			return
		}
	}
	if count[true] < 5000 || count[false] < 5000 {
		t.Errorf("%v: too few of one kind", count)
	}
}

// some gives a text of up to so many of these bytes.
func some(rnd *rand.Rand, least, most int, bytes string) string {
	out := make([]byte, least+rnd.Intn(most-least+1))
	for i := range out {
		out[i] = bytes[rnd.Intn(len(bytes))]
	}
	return string(out)
}

// ascending gives numbers below limit, of which no two are alike.
func ascending(rnd *rand.Rand, least, most, limit int) []int {
	n := least + rnd.Intn(most-least+1)
	var out []int
	for len(out) < n {
		if m := rnd.Intn(limit); !slices.Contains(out, m) {
			out = append(out, m)
		}
	}
	slices.Sort(out)
	return out
}

// someEvent gives an event.
func someEvent(rnd *rand.Rand) api.Event {
	e := api.Event{
		UID:   some(rnd, 1, api.MaxUID, "abzABZ019-"),
		Text:  some(rnd, 0, rnd.Intn(2)*api.MaxText, "abN n ~!,;:\\\n"),
		Start: rnd.Intn(api.MaxMinute),
		Long:  1 + rnd.Intn(api.MaxLong),
		Rooms: ascending(rnd, 1, api.MaxRooms, api.MaxRoom),
		Rule:  someRule(rnd),
	}
	if e.Rule.Freq != 0 {
		e.Except = ascending(rnd, 0, rnd.Intn(2)*api.MaxList, api.MaxMinute)
	}
	return e
}

// someRule gives a rule, often Once.
func someRule(rnd *rand.Rand) api.Rule {
	r := rule.Once()
	if rnd.Intn(2) == 0 {
		return r
	}
	r.Freq, r.Every = 1+rnd.Intn(4), 1+rnd.Intn(100)
	r.ByMonth = ascending(rnd, 1, 3, 12)
	for i := range r.ByMonth {
		r.ByMonth[i]++
	}
	switch rnd.Intn(3) {
	case 0:
		r.Count = 1 + rnd.Intn(api.MaxOcc)
	case 1:
		r.Until = rnd.Intn(api.MaxMinute)
	}
	for _, day := range ascending(rnd, 0, 3, 7) {
		r.ByDay = append(r.ByDay, api.Weekday{Day: day})
	}
	if r.Freq != api.Weekly && rnd.Intn(2) == 0 {
		r.ByMonthDay = []int{-1 - rnd.Intn(31), 1 + rnd.Intn(31)}
	}
	return r
}

// spoil changes one field, mostly to what it can't be.
func spoil(rnd *rand.Rand, e *api.Event) {
	small := rnd.Intn(14) - 2
	switch rnd.Intn(8) {
	case 0:
		e.UID += some(rnd, 0, 4, "aZ9- _")
	case 1:
		e.Text += some(rnd, 0, 9, "a \n\r\t~\x7f")
	case 2:
		e.Start = []int{-1, 0, lastMinute, api.MaxMinute}[rnd.Intn(4)]
	case 3:
		e.Long = []int{0, 1, api.MaxLong, api.MaxLong + 1}[rnd.Intn(4)]
	case 4:
		e.Rooms = append(e.Rooms, small)
	case 5:
		e.Except = append(e.Except, []int{-1, 0, lastMinute, api.MaxMinute}[rnd.Intn(4)])
	case 6:
		e.Rule.Every = small
	case 7:
		e.Rule = rule.Once()
	}
}
