package scribe_test

import (
	"fmt"
	"math/rand"
	"slices"
	"strings"
	"testing"

	"hostelry/api"
	"hostelry/deed"
	"hostelry/rule"
	"hostelry/scribe"
)

// one picks one of several things.
func one[T any](rnd *rand.Rand, l ...T) T {
	return l[rnd.Intn(len(l))]
}

// some gives up to so many of these bytes.
func some(rnd *rand.Rand, least, most int, bytes string) string {
	out := make([]byte, least+rnd.Intn(most-least+1))
	for i := range out {
		out[i] = bytes[rnd.Intn(len(bytes))]
	}
	return string(out)
}

// ascending gives up to so many numbers from first to last, of which no two are alike.
func ascending(rnd *rand.Rand, least, most, first, last int) []int {
	n := least + rnd.Intn(most-least+1)
	var out []int
	for len(out) < n {
		if m := first + rnd.Intn(last-first+1); !slices.Contains(out, m) {
			out = append(out, m)
		}
	}
	slices.Sort(out)
	return out
}

func someEvent(rnd *rand.Rand) api.Event {
	e := api.Event{
		UID:   some(rnd, 1, one(rnd, 1, 2, api.MaxUID), "ab19-"),
		Text:  some(rnd, 0, one(rnd, 0, 1, 2, api.MaxText), "ab 1-\n,"),
		Start: one(rnd, 0, 1, 12, rnd.Intn(api.MaxMinute)),
		Long:  one(rnd, 1, 2, 12, 1+rnd.Intn(api.MaxLong)),
		Rooms: ascending(rnd, 1, one(rnd, 1, 2, api.MaxRooms), 0, api.MaxRoom-1),
		Rule:  someRule(rnd),
	}
	if e.Rule.Freq != 0 {
		e.Except = ascending(rnd, 0, one(rnd, 0, 2, api.MaxList), 0, one(rnd, 15, lastMinute))
	}
	return e
}

// someRule gives a rule, often Once.
func someRule(rnd *rand.Rand) api.Rule {
	r := rule.Once()
	if rnd.Intn(3) == 0 {
		return r
	}
	r.Freq, r.Every = 1+rnd.Intn(4), one(rnd, 1, 2, 12, 100)
	switch rnd.Intn(3) {
	case 0:
		r.Count = 1 + rnd.Intn(api.MaxOcc)
	case 1:
		r.Until = one(rnd, 0, 1, 12, lastMinute)
	}
	r.ByMonth = ascending(rnd, 1, one(rnd, 1, 2, 12), 1, 12)
	if r.Freq != api.Weekly {
		r.ByMonthDay = ascending(rnd, 0, one(rnd, 0, 1, 12), 1, 31)
	}
	for _, day := range ascending(rnd, 0, one(rnd, 0, 1, 7), 0, 6) {
		r.ByDay = append(r.ByDay, api.Weekday{Day: day})
	}
	if r.Freq >= api.Monthly && rnd.Intn(2) == 0 {
		r.ByDay = []api.Weekday{{N: -1 - rnd.Intn(5), Day: rnd.Intn(7)}, {N: 1 + rnd.Intn(5), Day: rnd.Intn(7)}}
	}
	return r
}

// someClaims are in their unique form.
func someClaims(rnd *rand.Rand) []api.Claim {
	var out []api.Claim
	for _, room := range ascending(rnd, 1, one(rnd, 1, 2, 4), 0, api.MaxRoom-1) {
		ends := ascending(rnd, 1, one(rnd, 1, 2, 20), 0, one(rnd, 30, api.MaxMinute))
		for i := 0; i+1 < len(ends); i += 2 {
			out = append(out, of(room, ends[i], ends[i+1]))
		}
	}
	if len(out) == 0 {
		out = list(of(1, 2, 3))
	}
	return out
}

func someDeed(rnd *rand.Rand) api.Deed {
	seq := func() int { return one(rnd, 1, 2, 12, 1+rnd.Intn(api.MaxSeq)) }
	peer := rnd.Intn(api.MaxSite)
	return only(one(rnd, kinds()...), api.Deed{
		ID:     id(seq(), rnd.Intn(api.MaxSite)),
		Event:  someEvent(rnd),
		Claims: someClaims(rnd),
		Peer:   peer,
		N:      seq(),
		Book:   api.Booking{ID: id(seq(), peer), State: one(rnd, states()...), Event: someEvent(rnd)},
	})
}

// P15.1, P15.3: Line of many deeds: as different as they are, and read again
func TestManyDeeds(t *testing.T) {
	rnd := rand.New(rand.NewSource(151))
	lines, deeds := map[string]string{}, map[string]string{}
	count := map[int]int{}
	for range 30000 {
		d := someDeed(rnd)
		if !deed.Is(d) {
			t.Fatalf("%+v is no deed", d)
		}
		count[d.Kind]++
		s, whole := lineOf(t, d), fmt.Sprintf("%#v", settled(d))
		if other, ok := lines[s]; ok && other != whole {
			t.Errorf("%s and %s have the line %q", other, whole, s)
		}
		if other, ok := deeds[whole]; ok && other != s {
			t.Errorf("%s has the lines %q and %q", whole, other, s)
		}
		lines[s], deeds[whole] = whole, s
		if t.Failed() {
			return
		}
	}
	for _, kind := range kinds() {
		if count[kind] < 3000 {
			t.Errorf("kind %d: %d are too few", kind, count[kind])
		}
	}
}

// settled gives the deed with nil for each list that is empty, as printing tells them apart.
func settled(d api.Deed) api.Deed {
	if len(d.Claims) == 0 {
		d.Claims = nil
	}
	for _, e := range []*api.Event{&d.Event, &d.Book.Event} {
		settle(&e.Rooms)
		settle(&e.Except)
		settle(&e.Rule.ByDay)
		settle(&e.Rule.ByMonthDay)
		settle(&e.Rule.ByMonth)
	}
	return d
}

func settle[E any](l *[]E) {
	if len(*l) == 0 {
		*l = nil
	}
}

// P15.2: Read of many lines, one byte of which is spoilt
func TestManySpoiltLines(t *testing.T) {
	rnd := rand.New(rand.NewSource(152))
	for range 20000 {
		s := lineOf(t, someDeed(rnd))
		i := rnd.Intn(len(s))
		b := one(rnd, byte(rnd.Intn(256)), "0123456789 -"[rnd.Intn(12)])
		changeByte(t, s, i, b)
		insertByte(t, s, i, b)
		removeByte(t, s, i)
		expectSpoilt(t, s[:i])
		if t.Failed() {
			return
		}
	}
}

// P15.2: what is in the text of two deeds alike, and what stands between, put together anew
func TestLinesOfTheWordsOfTwo(t *testing.T) {
	rnd := rand.New(rand.NewSource(153))
	read := 0
	for range 20000 {
		a, b := strings.Fields(scribe.Written(someDeed(rnd))), strings.Fields(scribe.Written(someDeed(rnd)))
		i := rnd.Intn(len(a) + 1)
		s := scribe.Sealed(strings.Join(slices.Concat(a[:i], b[min(i, len(b)):]), " "))
		expectOwn(t, s)
		if _, err := scribe.Read(s); err == api.OK {
			read++
		}
	}
	if read < 1000 {
		t.Errorf("only %d of them are of a deed", read)
	}
}

// The rules of DOC.md.

// roomy gives the deed with spare capacity behind each of its lists, and these lists with it.
func roomy(d api.Deed) (api.Deed, []any) {
	claims := append(slices.Clone(d.Claims), of(7, 7, 7), of(6, 6, 6))
	d.Claims = claims[:len(d.Claims)]
	lists := []any{claims}
	for _, e := range []*api.Event{&d.Event, &d.Book.Event} {
		rooms, except := append(slices.Clone(e.Rooms), 99, 98), append(slices.Clone(e.Except), 97, 96)
		byDay := append(slices.Clone(e.Rule.ByDay), api.Weekday{N: 95, Day: 94})
		byMonthDay, byMonth := append(slices.Clone(e.Rule.ByMonthDay), 93), append(slices.Clone(e.Rule.ByMonth), 92)
		lists = append(lists, rooms, except, byDay, byMonthDay, byMonth)
		e.Rooms, e.Except = rooms[:len(e.Rooms)], except[:len(e.Except)]
		e.Rule.ByDay = byDay[:len(e.Rule.ByDay)]
		e.Rule.ByMonthDay, e.Rule.ByMonth = byMonthDay[:len(e.Rule.ByMonthDay)], byMonth[:len(e.Rule.ByMonth)]
	}
	return d, lists
}

// The arguments are as they were, behind their ends too.
func TestArgumentsAreLeft(t *testing.T) {
	for _, was := range append(deeds(), noDeeds()...) {
		d, lists := roomy(was)
		_, want := roomy(was)
		a, err := scribe.Line(d)
		b, other := scribe.Line(was)
		if a != b || err != other {
			t.Errorf("%+v has the line %q, %v, and with more room %q, %v", was, b, other, a, err)
		}
		if fmt.Sprint(lists) != fmt.Sprint(want) {
			t.Errorf("%+v has been changed: %v", was, lists)
		}
	}
}

// Nothing is kept: what is changed afterwards is seen, and changes no line.
func TestNothingIsKept(t *testing.T) {
	d := great(api.DGive)
	was := lineOf(t, d)
	d.Claims[0].Room = 0
	if now := lineOf(t, d); now == was {
		t.Errorf("the line is still %q", now)
	}
	d.Claims[0].Room = 9
	expectNone(t, d)
	d.Claims[0].Room = api.MaxRoom - 1
	if now := lineOf(t, d); now != was {
		t.Errorf("the line was %q, and is %q", was, now)
	}
}

// fill writes into all memory of a list, behind its end too.
func fill[E any](l []E, with E) {
	l = l[:cap(l)]
	for i := range l {
		l[i] = with
	}
}

// fills are writings into each of the lists of a deed.
func fills(d api.Deed) []func() {
	out := []func(){func() { fill(d.Claims, of(9, 9, 9)) }}
	for _, e := range []api.Event{d.Event, d.Book.Event} {
		out = append(out,
			func() { fill(e.Rooms, 99) },
			func() { fill(e.Except, 99) },
			func() { fill(e.Rule.ByDay, api.Weekday{N: 99, Day: 99}) },
			func() { fill(e.Rule.ByMonthDay, 99) },
			func() { fill(e.Rule.ByMonth, 99) },
		)
	}
	return out
}

// What is read is new memory: what is done to one list shows in no other one.
func TestWhatIsReadIsNewMemory(t *testing.T) {
	for _, want := range deeds() {
		s := lineOf(t, want)
		kept, err := scribe.Read(s)
		for i := range fills(want) {
			got, other := scribe.Read(s)
			was := fmt.Sprint(got)
			lists := fills(got)
			before := changedBy(got, lists[i])
			if err != api.OK || other != api.OK || !deed.Same(kept, want) || before > 1 {
				t.Errorf("%s is changed in %d lists: %+v, %v, %v", was, before, kept, err, other)
			}
		}
		expectSpoilt(t, s[:len(s)-1])
		if again := lineOf(t, want); again != s {
			t.Errorf("the line was %q, and is %q", s, again)
		}
	}
}

// changedBy tells how many lists of the deed a writing changes.
func changedBy(d api.Deed, write func()) int {
	before := listsOf(d)
	write()
	n := 0
	for i, now := range listsOf(d) {
		if now != before[i] {
			n++
		}
	}
	return n
}

// listsOf tells each list of a deed.
func listsOf(d api.Deed) []string {
	out := []string{fmt.Sprint(d.Claims)}
	for _, e := range []api.Event{d.Event, d.Book.Event} {
		out = append(out, fmt.Sprint(e.Rooms), fmt.Sprint(e.Except), fmt.Sprint(e.Rule.ByDay), fmt.Sprint(e.Rule.ByMonthDay), fmt.Sprint(e.Rule.ByMonth))
	}
	return out
}

// A string may lie within a greater one, and what is read may outlive it.
func TestLinesWithinGreaterTexts(t *testing.T) {
	for _, d := range deeds() {
		s := lineOf(t, d)
		whole := "12 " + s + " 34\n" + s
		got, err := scribe.Read(whole[3 : 3+len(s)])
		last, other := scribe.Read(whole[len(whole)-len(s):])
		if err != api.OK || other != api.OK || !deed.Same(got, d) || !deed.Same(last, d) {
			t.Errorf("Read(%q) = %+v, %v, %+v, %v", s, got, err, last, other)
		}
	}
}

func TestTheSameAgain(t *testing.T) {
	want := map[int]string{}
	for range 3 {
		for i, d := range deeds() {
			s := lineOf(t, d)
			if was, ok := want[i]; ok && was != s {
				t.Errorf("the line was %q, and is %q", was, s)
			}
			want[i] = s
			expectNone(t, api.Deed{})
			expectSpoilt(t, s+"0")
		}
	}
}
