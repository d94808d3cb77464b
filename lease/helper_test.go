package lease_test

import (
	"math"
	"math/rand"
	"slices"
	"testing"

	"hostelry/api"
	"hostelry/lease"
)

const lastMinute = api.MaxMinute - 1

// of is short for the literals of the tables.
func of(room, from, to int) api.Claim {
	return api.Claim{Room: room, Span: api.Span{From: from, To: to}}
}

// list is short for the literals of the tables.
func list(l ...api.Claim) []api.Claim {
	return l
}

// joined gives the lists as one, in new memory.
func joined(lists ...[]api.Claim) []api.Claim {
	return slices.Concat(lists...)
}

// turned gives the list from its end on, in new memory.
func turned(l []api.Claim) []api.Claim {
	out := slices.Clone(l)
	slices.Reverse(out)
	return out
}

// whole are the claims to these rooms for good.
func whole(rooms ...int) []api.Claim {
	var out []api.Claim
	for _, room := range rooms {
		out = append(out, of(room, 0, api.MaxMinute))
	}
	return out
}

func all() []api.Claim {
	return whole(0, 1, 2, 3, 4, 5, 6, 7)
}

// none are claims that are not valid: by their room, by their span, or by both.
func none() []api.Claim {
	var out []api.Claim
	for _, room := range []int{-1, 0, 2, 3, 5, 7, api.MaxRoom} {
		out = append(out,
			of(room, 0, 0), of(room, 5, 5), of(room, 9, 5), of(room, 1, 0),
			of(room, -1, 0), of(room, -1, 5), of(room, -9, -5), of(room, -1, api.MaxMinute),
			of(room, 0, api.MaxMinute+1), of(room, lastMinute, api.MaxMinute+1),
			of(room, api.MaxMinute, api.MaxMinute), of(room, api.MaxMinute, api.MaxMinute+1), of(room, api.MaxMinute, 0),
			of(room, math.MinInt, math.MaxInt), of(room, math.MaxInt, math.MinInt),
			of(room, math.MinInt, 5), of(room, 5, math.MinInt), of(room, 0, math.MaxInt),
			of(room, math.MinInt, math.MinInt), of(room, math.MaxInt, math.MaxInt),
		)
	}
	for _, room := range []int{math.MinInt, math.MinInt32, -api.MaxRoom, -2, -1, api.MaxRoom, api.MaxRoom + 1, api.MaxRoom + 2, 2 * api.MaxRoom, 1 << 32, math.MaxInt} {
		out = append(out, of(room, 0, 1), of(room, 5, 9), of(room, 0, api.MaxMinute), of(room, 1, lastMinute), of(room, lastMinute, api.MaxMinute))
	}
	return out
}

// among gives the claims of l with those of none between, before and behind them.
func among(l []api.Claim) []api.Claim {
	var out []api.Claim
	for _, c := range l {
		out = append(append(out, none()...), c)
	}
	return append(out, none()...)
}

// emptied gives a lease with nothing left.
func emptied() *lease.Lease {
	l := lease.New(0, 1)
	l.Cut(all())
	return l
}

// having gives a lease of just these claims.
func having(c ...api.Claim) *lease.Lease {
	l := emptied()
	l.Add(c)
	return l
}

// table is a plain table of minutes: which rooms a lease has from each one up
// to the next one. The claims that it is asked for begin and end at them.
type table struct {
	at []int
	in [api.MaxRoom][]bool
}

const wide = 12

// newTable gives the table of a lease at the beginning, with some minutes in a
// row, all before them as one and all behind them as one.
func newTable(first, site, n int) *table {
	t := &table{at: []int{0, api.MaxMinute}}
	for i := range wide + 1 {
		t.at = append(t.at, first+i)
	}
	slices.Sort(t.at)
	t.at = slices.Compact(t.at)
	for room := range t.in {
		t.in[room] = slices.Repeat([]bool{room%n == site}, len(t.at)-1)
	}
	return t
}

// claimed tells by the words of the chapter whether a list has a room from one
// minute of the table up to the next one.
func (t *table) claimed(c []api.Claim, room, i int) bool {
	return slices.ContainsFunc(c, func(c api.Claim) bool {
		valid := c.Room >= 0 && c.Room < api.MaxRoom && c.Span.From >= 0 && c.Span.From < c.Span.To && c.Span.To <= api.MaxMinute
		return valid && c.Room == room && c.Span.From <= t.at[i] && t.at[i+1] <= c.Span.To
	})
}

// mark notes down that the lease has a list, or that it has it no longer.
func (t *table) mark(c []api.Claim, has bool) {
	for room := range t.in {
		for i := range t.in[room] {
			if t.claimed(c, room, i) {
				t.in[room][i] = has
			}
		}
	}
}

// those gives the neat claims to the minutes of the table that are meant.
func (t *table) those(meant func(room, i int) bool) []api.Claim {
	var out []api.Claim
	for room := range t.in {
		was := false
		for i := range t.in[room] {
			is := meant(room, i)
			switch {
			case is && was:
				out[len(out)-1].Span.To = t.at[i+1]
			case is:
				out = append(out, of(room, t.at[i], t.at[i+1]))
			}
			was = is
		}
	}
	return out
}

func (t *table) copied() *table {
	out := &table{at: t.at}
	for room := range t.in {
		out.in[room] = slices.Clone(t.in[room])
	}
	return out
}

// some gives up to so many claims, some of which are not valid.
func (t *table) some(rnd *rand.Rand, most int) []api.Claim {
	out := make([]api.Claim, rnd.Intn(most+1))
	for i := range out {
		room := rnd.Intn(api.MaxRoom+2) - 1
		out[i] = of(room, t.at[rnd.Intn(len(t.at))], t.at[rnd.Intn(len(t.at))])
		if rnd.Intn(20) == 0 {
			out[i] = none()[rnd.Intn(len(none()))]
		}
	}
	return out
}

func expect(t *testing.T, name string, got, want []api.Claim, lists ...[]api.Claim) {
	t.Helper()
	if !slices.Equal(got, want) {
		t.Errorf("%s of %v = %v, want %v", name, lists, got, want)
	}
}

// expectAnswers fails unless a lease tells just this of a list.
func expectAnswers(t *testing.T, l *lease.Lease, c, part, lack []api.Claim) {
	t.Helper()
	expect(t, "Part", l.Part(c), part, l.Own(), c)
	expect(t, "Lack", l.Lack(c), lack, l.Own(), c)
	if got := l.Has(c); got != (len(lack) == 0) {
		t.Errorf("Has of %v in %v is %v", c, l.Own(), got)
	}
}

// check holds a lease, and what it tells of a list, against a table.
func check(t *testing.T, l *lease.Lease, want *table, c []api.Claim) {
	t.Helper()
	expect(t, "Own", l.Own(), want.those(func(room, i int) bool { return want.in[room][i] }))
	expectAnswers(t, l, c,
		want.those(func(room, i int) bool { return want.claimed(c, room, i) && want.in[room][i] }),
		want.those(func(room, i int) bool { return want.claimed(c, room, i) && !want.in[room][i] }))
}
