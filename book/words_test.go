package book_test

import (
	"math/rand"
	"reflect"
	"slices"
	"strconv"
	"testing"

	"hostelry/api"
	"hostelry/book"
	"hostelry/event"
)

// P17.1 and P17.2 by the words of the chapter

// pick gives one of several things.
func pick[T any](rnd *rand.Rand, l ...T) T {
	return l[rnd.Intn(len(l))]
}

// someBooking gives one with an ID, a UID and room minutes that others have
// too, sometimes with a fault.
func someBooking(rnd *rand.Rand) api.Booking {
	x := booked(1+rnd.Intn(5), rnd.Intn(3), pick(rnd, states()...), named(pick(rnd, "a", "b", "c", "A", "ab")),
		from(2000+10*rnd.Intn(30)), long(1+10*rnd.Intn(15)), in(pick(rnd, []int{2}, []int{3}, []int{2, 3})...))
	switch rnd.Intn(12) {
	case 0:
		x.ID = pick(rnd, noIDs()...)
	case 1:
		x.State = pick(rnd, noStates()...)
	case 2:
		x.Event = pick(rnd, faultyEvents()...)
	case 3, 4:
		x.Event = pick(rnd, others()...)
	case 5:
		daily(2 + rnd.Intn(4))(&x.Event)
	}
	return x
}

// someClaims gives up to so many, some of which are not valid.
func someClaims(rnd *rand.Rand, n int) []api.Claim {
	out := make([]api.Claim, rnd.Intn(n+1))
	for i := range out {
		out[i] = of(1+rnd.Intn(4), 1990+10*rnd.Intn(50), 1990+10*rnd.Intn(50))
		if rnd.Intn(15) == 0 {
			out[i] = pick(rnd, none()...)
		}
	}
	return out
}

// Long rows of Puts, with copies that go on by themselves.
func TestManyPuts(t *testing.T) {
	rnd := rand.New(rand.NewSource(171))
	for range 60 {
		books, papers := []*book.Book{book.New()}, []paper{nil}
		for range 60 {
			i := rnd.Intn(len(books))
			if rnd.Intn(15) == 0 {
				books, papers = append(books, books[i].Copy()), append(papers, slices.Clone(papers[i]))
			}
			x := someBooking(rnd)
			books[i].Put(x)
			papers[i].put(x)
			expectBookings(t, "All", books[i].All(), papers[i].ordered())
			c := someClaims(rnd, 5)
			expectBusy(t, books[i], c, papers[i].busy(c)...)
			if t.Failed() {
				t.Fatalf("behind Put(%+v)", x)
			}
		}
		for i, b := range books {
			expect(t, b, papers[i])
		}
		if t.Failed() {
			return
		}
	}
}

// A book of so many bookings as these tests can bear, put in an order far from theirs.
func TestABigBook(t *testing.T) {
	const n = 100000
	b := book.New()
	count := map[int]int{}
	numbered := func(k int) api.Booking {
		return booked(1+k/api.MaxSite, k%api.MaxSite, states()[k%7%4], named("n-"+strconv.Itoa(k)), from(60*k), in(k%api.MaxRoom))
	}
	for i := range n {
		k := (i*7919 + 13) % n // each number once
		b.Put(numbered(k))
		count[numbered(k).State]++
	}
	expectOpen(t, b, count[api.Pending]+count[api.Confirmed])
	all := b.All()
	if len(all) != n {
		t.Fatalf("%d bookings", len(all))
	}
	for k, x := range all {
		if want := numbered(k); x.ID != want.ID || x.State != want.State || !event.Same(x.Event, want.Event) {
			t.Fatalf("booking %d is %+v", k, x)
		}
	}
	for _, state := range states() {
		l := b.Of(state)
		if len(l) != count[state] || !slices.IsSortedFunc(l, func(a, b api.Booking) int {
			return slices.Compare([]int{a.ID.Seq, a.ID.Site}, []int{b.ID.Seq, b.ID.Site})
		}) {
			t.Errorf("%d bookings in state %d, want %d", len(l), state, count[state])
		}
	}
	for k := 0; k < n; k += 997 {
		x := numbered(k)
		expectGet(t, b, x.ID, x)
		expectTaken(t, b, x.Event.UID, x.State == api.Pending || x.State == api.Confirmed)
	}
	for k := 0; k < n; k += 9973 {
		x := numbered(k)
		hour := of(k%api.MaxRoom, 60*k, 60*k+60)
		if x.State == api.Confirmed {
			expectBusy(t, b, list(hour), hour)
		} else {
			expectBusy(t, b, list(hour))
		}
	}
	if busy := b.Busy(whole()); len(busy) != count[api.Confirmed] {
		t.Errorf("%d claims are busy", len(busy))
	}
	other := b.Copy()
	for k := range n {
		x := numbered(k)
		x.State = api.Cancelled
		other.Put(x)
	}
	expectOpen(t, other, 0)
	expectBusy(t, other, whole())
	expectOpen(t, b, count[api.Pending]+count[api.Confirmed])
}

// What a site does for long: each booking is asked for, confirmed and cancelled.
func TestManyBookingsThatAreOver(t *testing.T) {
	b := book.New()
	const n, open = 100000, api.MaxOwn
	for i := range n {
		named := named("n-" + strconv.Itoa(i))
		b.Put(booked(1+i, 2, api.Pending, named, from(i)))
		b.Put(booked(1+i, 2, api.Confirmed, named, from(i)))
		if i >= open {
			b.Put(booked(1+i-open, 2, api.Cancelled, from(i-open)))
		}
		if got := b.Open(); got != min(i+1, open) || b.Taken("a-1") || !b.Taken("n-"+strconv.Itoa(i)) {
			t.Fatalf("%d are open behind %d", got, i)
		}
	}
	expectBusy(t, b, whole(), of(3, n-open, n+59))
	if got := len(b.Of(api.Cancelled)); got != n-open {
		t.Errorf("%d are cancelled", got)
	}
}

// The rules of DOC.md.

// lists gives each list of a booking with what is behind its end.
func lists(x *api.Booking) (numbers []*[]int, days *[]api.Weekday) {
	e := &x.Event
	return []*[]int{&e.Rooms, &e.Except, &e.Rule.ByMonthDay, &e.Rule.ByMonth}, &e.Rule.ByDay
}

// fill writes into all memory of a list, behind its end too.
func fill[E any](l []E, x E) {
	l = l[:cap(l)]
	for i := range l {
		l[i] = x
	}
}

// filled reports whether just this is in all memory of a list.
func filled[E comparable](l []E, x E) bool {
	return !slices.ContainsFunc(l[:cap(l)], func(other E) bool { return other != x })
}

// mark fills each list of some bookings, and each booking, with a number of its own.
func mark(n *int, l []api.Booking) {
	l = l[:cap(l)]
	for i := range l {
		numbers, days := lists(&l[i])
		for _, list := range numbers {
			*n++
			fill(*list, *n)
		}
		*n++
		fill(*days, api.Weekday{N: *n, Day: *n})
		l[i].ID, l[i].State, l[i].Event.UID, l[i].Event.Start = id(*n, *n), *n, strconv.Itoa(*n), *n
	}
}

// marked reports whether all is still as mark has left it, from the same number on.
func marked(n *int, l []api.Booking) bool {
	ok := true
	l = l[:cap(l)]
	for i := range l {
		numbers, days := lists(&l[i])
		for _, list := range numbers {
			*n++
			ok = ok && filled(*list, *n)
		}
		*n++
		ok = ok && filled(*days, api.Weekday{N: *n, Day: *n}) && l[i].ID == id(*n, *n)
	}
	return ok
}

// memory gives all that bookings have, behind their ends too, in new memory.
func memory(l []api.Booking) []api.Booking {
	out := slices.Clone(l[:cap(l)])
	for i := range out {
		numbers, days := lists(&out[i])
		for _, list := range numbers {
			*list = slices.Clone((*list)[:cap(*list)])
		}
		*days = slices.Clone((*days)[:cap(*days)])
	}
	return out
}

// answers are all that a book tells in lists.
func answers(b *book.Book) [][]api.Booking {
	out := [][]api.Booking{b.All(), b.All()}
	for _, state := range states() {
		out = append(out, b.Of(state), b.Of(state))
	}
	for _, x := range b.All() {
		first, _ := b.Get(x.ID)
		second, _ := b.Get(x.ID)
		out = append(out, []api.Booking{first}, []api.Booking{second})
	}
	return out
}

// No two slices share memory, of one answer or of several ones, of one book or
// of its copies, and none shares it with a book.
func TestAnswersAreTheCallersOwn(t *testing.T) {
	for _, l := range kinds() {
		b, want := bookOf(l...), paperOf(l...)
		other := b.Copy()
		all := slices.Concat(answers(b), answers(other), answers(b.Copy()))
		busy := [][]api.Claim{b.Busy(whole()), b.Busy(whole()), other.Busy(whole())}
		n := 0
		for _, l := range all {
			mark(&n, l)
		}
		for i, c := range busy {
			fill(c, of(i, i, i))
		}
		n = 0
		for i, l := range all {
			if !marked(&n, l) {
				t.Fatalf("answer %d shares memory: %+v", i, l)
			}
		}
		for i, c := range busy {
			if !filled(c, of(i, i, i)) {
				t.Fatalf("two answers of Busy share memory: %v", c)
			}
		}
		expect(t, b, want)
		expect(t, other, want)
		if t.Failed() {
			return
		}
	}
}

func TestAnswersStayAsTheyWere(t *testing.T) {
	for _, l := range kinds() {
		b := bookOf(l...)
		all, busy := answers(b), b.Busy(whole())
		var wants [][]api.Booking
		for _, l := range all {
			wants = append(wants, memory(l))
		}
		want := slices.Clone(busy)
		for _, x := range changes() {
			b.Put(x)
			answers(b)
			b.Busy(whole())
		}
		for i, l := range all {
			if !reflect.DeepEqual(memory(l), wants[i]) {
				t.Errorf("answer %d changed with the book", i)
			}
		}
		if !slices.Equal(busy, want) {
			t.Errorf("Busy changed with the book")
		}
	}
}

// roomy gives the booking with spare capacity behind each of its lists.
func roomy(x api.Booking) api.Booking {
	numbers, days := lists(&x)
	for _, list := range numbers {
		*list = append(slices.Clone(*list), 99, 98, 97)[:len(*list)]
	}
	*days = append(slices.Clone(*days), api.Weekday{N: 95, Day: 94}, api.Weekday{N: 93, Day: 92})[:len(*days)]
	return x
}

func TestArgumentsStayAsTheyWere(t *testing.T) {
	for _, x := range slices.Concat(some(), noBookings(), changes()) {
		given := []api.Booking{roomy(x)}
		was := memory(given)
		b := bookOf(some()...)
		for range 2 {
			b.Put(given[0])
			n := 0
			for _, l := range answers(b) {
				mark(&n, l)
			}
			b.Busy(whole())
			b.Copy().Put(given[0])
		}
		if !reflect.DeepEqual(memory(given), was) {
			t.Errorf("Put changed %+v to %+v", was, given)
		}
	}
	for _, c := range [][]api.Claim{nil, list(of(3, 2100, 2200), of(3, 2000, 2090)), whole(), none()} {
		given := append(slices.Clone(c), of(0, 5, 9), of(-7, 1, 0), of(3, 0, 3))
		was := slices.Clone(given)
		for _, b := range []*book.Book{book.New(), bookOf(some()...)} {
			fill(b.Busy(given[:len(c)]), of(9, 9, 9))
			if !slices.Equal(given, was) {
				t.Errorf("Busy changed %v to %v", was, given)
			}
		}
	}
}

func TestArgumentsAreNotKept(t *testing.T) {
	b := book.New()
	var given []api.Booking
	for _, x := range some() {
		given = append(given, roomy(x))
		b.Put(given[len(given)-1])
	}
	other := b.Copy()
	n := 0
	mark(&n, given)
	expect(t, b, some())
	expect(t, other, some())

	// One booking that is changed and put again is put as it is then.
	x := roomy(booked(1, 0, api.Confirmed, full))
	b = bookOf(x)
	x.ID, x.Event.Rooms[0] = id(2, 0), 5
	x.Event.Rooms = x.Event.Rooms[:1]
	b.Put(x)
	expect(t, b, paper{booked(1, 0, api.Confirmed, full), booked(2, 0, api.Confirmed, full, in(5))})

	c := list(of(3, 2000, 2100))
	b = bookOf(booked(1, 0, api.Confirmed))
	busy := b.Busy(c)
	fill(c, of(9, 9, 9))
	if !slices.Equal(busy, list(of(3, 2070, 2100))) {
		t.Errorf("Busy changed with its argument to %v", busy)
	}
	expectBusy(t, b, whole(), of(3, 2070, 2130))
}

// What a book tells can be put into it again, and into another one.
func TestAnswersAsArguments(t *testing.T) {
	b, other := bookOf(some()...), book.New()
	for _, x := range b.All() {
		b.Put(x)
		other.Put(x)
	}
	n := 0
	mark(&n, b.All())
	expect(t, b, some())
	expect(t, other, some())
	expectBusy(t, b, b.Busy(whole()), other.Busy(whole())...)
}

// A nil list and an empty one are the same.
func TestNilAndEmpty(t *testing.T) {
	empty := func(e *api.Event) {
		e.Except, e.Rule.ByDay, e.Rule.ByMonthDay, e.Rule.ByMonth = []int{}, []api.Weekday{}, []int{}, []int{}
	}
	for _, state := range states() {
		for _, does := range []func(e *api.Event){named("once"), daily(3)} {
			a, b := bookOf(booked(1, 0, state, does)), bookOf(booked(1, 0, state, does, empty))
			expect(t, a, paper{booked(1, 0, state, does, empty)})
			expect(t, b, paper{booked(1, 0, state, does)})
			if !reflect.DeepEqual(a.All(), b.All()) {
				t.Errorf("All = %+v and %+v", a.All(), b.All())
			}
			first, _ := a.Get(id(1, 0))
			second, _ := b.Get(id(1, 0))
			if !reflect.DeepEqual(first, second) {
				t.Errorf("Get = %+v and %+v", first, second)
			}
		}
		x := booked(1, 0, state)
		x.Event.Rooms = []int{} // no event, as with nil
		expect(t, bookOf(x), nil)
		expectBusy(t, bookOf(booked(1, 0, state)), list())
	}
}

func TestBooksTellNothingOfEachOther(t *testing.T) {
	a, b := book.New(), book.New()
	a.Put(booked(1, 0, api.Confirmed))
	expect(t, b, nil)
	b.Put(booked(1, 0, api.Pending, named("b")))
	expect(t, a, paper{booked(1, 0, api.Confirmed)})
	expect(t, b, paper{booked(1, 0, api.Pending, named("b"))})
	expect(t, book.New(), nil)
}

// The signatures are those of the chapter.
var (
	_ func() *book.Book                                 = book.New
	_ func(b *book.Book, x api.Booking)                 = (*book.Book).Put
	_ func(b *book.Book, id api.ID) (api.Booking, bool) = (*book.Book).Get
	_ func(b *book.Book) []api.Booking                  = (*book.Book).All
	_ func(b *book.Book, state int) []api.Booking       = (*book.Book).Of
	_ func(b *book.Book, c []api.Claim) []api.Claim     = (*book.Book).Busy
	_ func(b *book.Book) int                            = (*book.Book).Open
	_ func(b *book.Book, uid string) bool               = (*book.Book).Taken
	_ func(b *book.Book) *book.Book                     = (*book.Book).Copy
)
