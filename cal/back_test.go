package cal_test

import (
	"fmt"
	"math/rand"
	"slices"
	"strings"
	"testing"

	"hostelry/api"
	"hostelry/cal"
	"hostelry/fold"
)

// P11.3

// expectBack expects what is printed to be read as the same events, and what is read to be printed as the same text.
func expectBack(t *testing.T, l ...api.Event) {
	t.Helper()
	s, err := cal.Print(l)
	if err != api.OK {
		t.Errorf("Print(%s): %v", brief(l), err)
		return
	}
	expectEvents(t, s, len(fold.Unfold(s)), l...)
	again, _, _ := cal.Parse(s)
	expectText(t, again, s)
}

func TestAPrintedCalendarIsReadAsTheSameEvents(t *testing.T) {
	expectBack(t)
	for n, e := range some() {
		expectBack(t, e)
		expectBack(t, some()[:n]...)
		expectBack(t, some()[n:]...)
	}
	back := some()
	slices.Reverse(back)
	expectBack(t, back...)
	var most []api.Event // of those that can be read
	for i := range 32 {
		most = append(most, hour(fmt.Sprint(i)))
		expectBack(t, most...)
	}
}

func TestCalendarsOfMaxBytesAreReadAgain(t *testing.T) {
	var first []api.Event // long lines, so that there are few
	for i := range 15 {
		first = append(first, full(fmt.Sprint("f", i)))
	}
	for size := api.MaxBytes - 100; size <= api.MaxBytes; size++ {
		l := sized(t, size, slices.Clone(first)...)
		if s, err := cal.Print(l); len(s) != size || err != api.OK {
			t.Errorf("%d bytes, %v, want %d", len(s), err, size)
		}
		expectBack(t, l...)
	}
}

func TestManyCalendarsAreReadAgain(t *testing.T) {
	rnd := rand.New(rand.NewSource(113))
	count := map[api.Errno]int{}
	for range 2000 {
		l := someEvents(rnd, 30)
		s, err := cal.Print(l)
		want, wantErr := printByWords(l)
		if s != want || err != wantErr {
			t.Fatalf("Print(%s) = %s, %v, want %s, %v", brief(l), brief(s), err, brief(want), wantErr)
		}
		count[err]++
		if err == api.OK && 3+9*len(l) <= api.MaxLines {
			expectBack(t, l...)
		} else if err == api.OK {
			expectByWords(t, s)
		}
		if t.Failed() {
			return
		}
	}
	if count[api.OK] < 500 || count[api.ErrLong] < 100 || count[api.ErrForm] < 20 {
		t.Errorf("%v: too few of one kind", count)
	}
}

func TestWhatIsReadIsPrintedAndReadAgain(t *testing.T) {
	rnd := rand.New(rand.NewSource(114))
	count := 0
	for range 2000 {
		l := someLines(rnd)
		for range rnd.Intn(2) {
			l = changed(rnd, l)
		}
		events, _, err := cal.Parse(text(l...))
		if err == api.OK {
			count++
			expectBack(t, events...)
		}
		if t.Failed() {
			return
		}
	}
	if count < 500 {
		t.Errorf("only %d are calendars", count)
	}
}

func TestFreeFormsArePrintedInOne(t *testing.T) {
	free := "begin:Vcalendar\r\nX:y\r\nBegin:vevent\r\nx-rooms:7,\r\n 0\r\nX:y\r\nuid:b\r\nSUMMARY:\\N\r\nDTSTART:20000101T000000\r\nDURATION:PT1M\r\nend:VEVENT\r\nX:y\r\nend:VCALENDAR"
	e := hour("b", func(e *api.Event) { e.Start, e.Long, e.Rooms, e.Text = 0, 1, []int{0, 7}, "\n" })
	expectEvents(t, free, 12, e)
	expectText(t, []api.Event{e}, head+text("BEGIN:VEVENT", "UID:b", "DTSTART:20000101T000000", "DURATION:PT1M", "X-ROOMS:0,7", `SUMMARY:\n`, "END:VEVENT")+foot)
	expectBack(t, e)
}

func TestWhatIsReadMayBeTooLongToBePrinted(t *testing.T) {
	// Printed it has a version, folds, and an end behind its last line.
	var l []string
	var want []api.Event
	for i := range 15 {
		uid := fmt.Sprint("f", i)
		l, want = append(l, fullLines(uid)...), append(want, full(uid))
	}
	s := strings.TrimSuffix(text(joined([]string{"BEGIN:VCALENDAR"}, l, []string{"END:VCALENDAR"})...), "\r\n")
	for len(s) <= api.MaxBytes {
		expectEvents(t, s, len(l)+2, want...)
		if _, err := cal.Print(want); err == api.ErrLong {
			return
		}
		uid := fmt.Sprint("m", len(l))
		l, want = append(l, hourLines(uid)...), append(want, hour(uid))
		s = strings.TrimSuffix(text(joined([]string{"BEGIN:VCALENDAR"}, l, []string{"END:VCALENDAR"})...), "\r\n")
	}
	t.Error("there is none")
}

// The rules of DOC.md.

func TestArgumentsStayAsTheyWere(t *testing.T) {
	for _, was := range [][]api.Event{nil, {}, some(), noEvents("a"), {hour("a"), hour("a")}, {hour("b"), hour("a"), {}}, sized(t, api.MaxBytes+1)} {
		l := append(slices.Clone(was), hour("behind"), hour("behind"))
		for i := range l {
			l[i].Rooms = append(slices.Clone(l[i].Rooms), 9, 9)[:len(l[i].Rooms)]
			l[i].Except = append(slices.Clone(l[i].Except), 9, 9)[:len(l[i].Except)]
		}
		_, _ = cal.Print(l[:len(was)])
		if !equal(l, append(slices.Clone(was), hour("behind"), hour("behind"))) {
			t.Errorf("%s became %s", brief(was), brief(l))
		}
		for _, e := range l {
			rooms, except := e.Rooms[len(e.Rooms):len(e.Rooms)+2], e.Except[len(e.Except):len(e.Except)+2]
			if !slices.Equal(rooms, []int{9, 9}) || !slices.Equal(except, []int{9, 9}) {
				t.Errorf("behind the lists of %+v lie %v and %v", e, rooms, except)
			}
		}
	}
}

func TestTheSameAgain(t *testing.T) {
	s, _ := cal.Print(some())
	for range 3 {
		expectText(t, some(), s)
		expectText(t, nil, head+foot)
		expectNoText(t, []api.Event{{}}, api.ErrForm)
		expectNoText(t, sized(t, api.MaxBytes+1), api.ErrLong)
		expectNoText(t, []api.Event{hour("a"), hour("a")}, api.ErrForm)
		expectFault(t, s+"x", 56)
		expectTooLong(t, strings.Repeat(s, 5))
		expectEvents(t, s, 56, some()...)
		expectEvents(t, head+foot, 3)
	}
}
