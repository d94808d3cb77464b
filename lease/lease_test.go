package lease_test

import (
	"testing"

	"hostelry/api"
	"hostelry/claim"
	"hostelry/lease"
)

// P13.1: Own

func TestOwn(t *testing.T) {
	expect(t, "Own", emptied().Own(), nil)
	expect(t, "Own", lease.New(2, 3).Own(), whole(2, 5))
	l := lease.New(2, 3)
	l.Cut(list(of(5, 10, 20)))
	expect(t, "Own", l.Own(), list(of(2, 0, api.MaxMinute), of(5, 0, 10), of(5, 20, api.MaxMinute)))
	l.Add(list(of(3, 7, 8), of(0, 5, 9), of(3, 8, 9)))
	expect(t, "Own", l.Own(), list(of(0, 5, 9), of(2, 0, api.MaxMinute), of(3, 7, 9), of(5, 0, 10), of(5, 20, api.MaxMinute)))
	l.Cut(whole(2))
	expect(t, "Own", l.Own(), list(of(0, 5, 9), of(3, 7, 9), of(5, 0, 10), of(5, 20, api.MaxMinute)))
	l.Cut(all())
	expect(t, "Own", l.Own(), nil)
	l.Add(all())
	expect(t, "Own", l.Own(), all())
}

// P13.1: Has, Part and Lack

func TestHasPartAndLack(t *testing.T) {
	l := having(of(2, 10, 20), of(2, 30, 40), of(5, 0, api.MaxMinute), of(7, 10, 20))
	for _, c := range []struct{ c, part, lack []api.Claim }{
		{nil, nil, nil},
		{list(), nil, nil},
		{list(of(2, 10, 20)), list(of(2, 10, 20)), nil},
		{list(of(2, 12, 15)), list(of(2, 12, 15)), nil}, // within
		{list(of(2, 10, 11)), list(of(2, 10, 11)), nil},
		{list(of(2, 19, 20)), list(of(2, 19, 20)), nil},
		{list(of(2, 9, 10)), nil, list(of(2, 9, 10))},
		{list(of(2, 20, 21)), nil, list(of(2, 20, 21))},
		{list(of(2, 5, 15)), list(of(2, 10, 15)), list(of(2, 5, 10))}, // over the beginning
		{list(of(2, 15, 25)), list(of(2, 15, 20)), list(of(2, 20, 25))},
		{list(of(2, 9, 21)), list(of(2, 10, 20)), list(of(2, 9, 10), of(2, 20, 21))},
		{list(of(2, 20, 30)), nil, list(of(2, 20, 30))}, // it only touches
		{list(of(2, 22, 28)), nil, list(of(2, 22, 28))},
		{list(of(2, 15, 35)), list(of(2, 15, 20), of(2, 30, 35)), list(of(2, 20, 30))},
		{list(of(2, 10, 40)), list(of(2, 10, 20), of(2, 30, 40)), list(of(2, 20, 30))},
		{whole(2), list(of(2, 10, 20), of(2, 30, 40)), list(of(2, 0, 10), of(2, 20, 30), of(2, 40, api.MaxMinute))},
		{whole(5), whole(5), nil},
		{list(of(5, 0, 1), of(5, lastMinute, api.MaxMinute)), list(of(5, 0, 1), of(5, lastMinute, api.MaxMinute)), nil},
		{list(of(3, 10, 20)), nil, list(of(3, 10, 20))}, // in a room that it has not
		{list(of(6, 10, 20), of(1, 10, 20)), nil, list(of(1, 10, 20), of(6, 10, 20))},
		{whole(0), nil, whole(0)},
		{list(of(7, 12, 25), of(2, 12, 15), of(3, 12, 15)), list(of(2, 12, 15), of(7, 12, 20)), list(of(3, 12, 15), of(7, 20, 25))},
		{list(of(7, 12, 15), of(2, 15, 20)), list(of(2, 15, 20), of(7, 12, 15)), nil},
		{list(of(2, 15, 20), of(2, 10, 15)), list(of(2, 10, 20)), nil}, // they touch
		{list(of(2, 12, 20), of(2, 10, 15), of(2, 12, 13)), list(of(2, 10, 20)), nil},
		{list(of(2, 15, 25), of(2, 5, 15), of(2, 20, 22)), list(of(2, 10, 20)), list(of(2, 5, 10), of(2, 20, 25))},
		{list(of(2, 22, 25), of(2, 25, 28)), nil, list(of(2, 22, 28))},
		{
			all(), list(of(2, 10, 20), of(2, 30, 40), of(5, 0, api.MaxMinute), of(7, 10, 20)),
			joined(whole(0, 1), list(of(2, 0, 10), of(2, 20, 30), of(2, 40, api.MaxMinute)), whole(3, 4, 6), list(of(7, 0, 10), of(7, 20, api.MaxMinute))),
		},
	} {
		for _, asked := range [][]api.Claim{c.c, turned(c.c), joined(c.c, c.c), claim.Neat(c.c), among(c.c)} {
			expectAnswers(t, l, asked, c.part, c.lack)
			expectAnswers(t, emptied(), asked, nil, claim.Neat(c.c))
			expectAnswers(t, lease.New(0, 1), asked, claim.Neat(c.c), nil)
		}
	}
}

func TestClaimsThatAreNotValidDoNotCount(t *testing.T) {
	for _, l := range []*lease.Lease{emptied(), lease.New(0, 1), lease.New(2, 3), having(of(2, 5, 9), of(5, 0, 1))} {
		own := l.Own()
		expectAnswers(t, l, none(), nil, nil)
		for _, c := range none() {
			expectAnswers(t, l, list(c), nil, nil)
			asked := list(c, of(2, 5, 9), c, of(0, 5, 9), c)
			expectAnswers(t, l, asked, l.Part(list(of(2, 5, 9), of(0, 5, 9))), l.Lack(list(of(2, 5, 9), of(0, 5, 9))))
			l.Add(list(c))
			expect(t, "Own behind Add", l.Own(), own, list(c))
			l.Cut(list(c, c))
			expect(t, "Own behind Cut", l.Own(), own, list(c))
		}
		l.Add(none())
		expect(t, "Own behind Add", l.Own(), own, none())
		l.Cut(none())
		expect(t, "Own behind Cut", l.Own(), own, none())
	}
}

// P13.1: Add and Cut

// had is what the leases of the tables have that are added to and cut from.
func had() []api.Claim {
	return list(of(2, 10, 20), of(2, 30, 40), of(7, 10, 20))
}

func TestAdd(t *testing.T) {
	for _, c := range []struct{ c, want []api.Claim }{
		{nil, had()},
		{list(), had()},
		{list(of(2, 10, 20)), had()}, // it has it already
		{list(of(2, 12, 15)), had()},
		{had(), had()},
		{list(of(2, 5, 10)), list(of(2, 5, 20), of(2, 30, 40), of(7, 10, 20))}, // they touch
		{list(of(2, 40, 41)), list(of(2, 10, 20), of(2, 30, 41), of(7, 10, 20))},
		{list(of(2, 15, 25)), list(of(2, 10, 25), of(2, 30, 40), of(7, 10, 20))}, // they overlap
		{list(of(2, 20, 30)), list(of(2, 10, 40), of(7, 10, 20))},                // it closes a gap
		{list(of(2, 25, 30), of(2, 20, 25)), list(of(2, 10, 40), of(7, 10, 20))},
		{list(of(2, 21, 29)), list(of(2, 10, 20), of(2, 21, 29), of(2, 30, 40), of(7, 10, 20))},
		{list(of(2, 0, 50)), list(of(2, 0, 50), of(7, 10, 20))},
		{list(of(3, 10, 20)), list(of(2, 10, 20), of(2, 30, 40), of(3, 10, 20), of(7, 10, 20))}, // in a new room
		{list(of(0, 0, 1), of(6, lastMinute, api.MaxMinute)), joined(list(of(0, 0, 1), of(2, 10, 20), of(2, 30, 40), of(6, lastMinute, api.MaxMinute), of(7, 10, 20)))},
		{list(of(7, 20, 30), of(3, 1, 2), of(2, 5, 35)), list(of(2, 5, 40), of(3, 1, 2), of(7, 10, 30))},
		{whole(2), list(of(2, 0, api.MaxMinute), of(7, 10, 20))},
		{whole(1, 4), joined(whole(1), list(of(2, 10, 20), of(2, 30, 40)), whole(4), list(of(7, 10, 20)))},
		{all(), all()},
	} {
		for _, added := range [][]api.Claim{c.c, turned(c.c), joined(c.c, c.c), among(c.c)} {
			l := having(had()...)
			l.Add(added)
			expect(t, "Own behind Add", l.Own(), c.want, had(), added)
			expectAnswers(t, l, added, claim.Neat(added), nil)
			l.Add(added)
			expect(t, "Own behind two Adds", l.Own(), c.want, had(), added)
		}
		one := having(had()...)
		for _, single := range c.c {
			one.Add(list(single))
		}
		expect(t, "Own behind single Adds", one.Own(), c.want, had(), c.c)
	}
}

func TestCut(t *testing.T) {
	for _, c := range []struct{ c, want []api.Claim }{
		{nil, had()},
		{list(), had()},
		{list(of(2, 10, 20)), list(of(2, 30, 40), of(7, 10, 20))},
		{list(of(2, 20, 30)), had()}, // it does not have it
		{list(of(2, 0, 10), of(2, 40, api.MaxMinute)), had()},
		{list(of(3, 10, 20), of(6, 10, 20), of(0, 0, 1)), had()},
		{whole(0, 1, 3, 4, 5, 6), had()},
		{list(of(2, 12, 15)), list(of(2, 10, 12), of(2, 15, 20), of(2, 30, 40), of(7, 10, 20))}, // in the middle
		{list(of(2, 10, 11)), list(of(2, 11, 20), of(2, 30, 40), of(7, 10, 20))},
		{list(of(2, 19, 20)), list(of(2, 10, 19), of(2, 30, 40), of(7, 10, 20))},
		{list(of(2, 5, 15)), list(of(2, 15, 20), of(2, 30, 40), of(7, 10, 20))},
		{list(of(2, 15, 35)), list(of(2, 10, 15), of(2, 35, 40), of(7, 10, 20))},
		{list(of(2, 35, 50), of(7, 0, 11), of(2, 5, 15)), list(of(2, 15, 20), of(2, 30, 35), of(7, 11, 20))},
		{list(of(2, 10, 40)), list(of(7, 10, 20))},
		{whole(2), list(of(7, 10, 20))},
		{whole(7), list(of(2, 10, 20), of(2, 30, 40))},
		{had(), nil},
		{all(), nil},
	} {
		for _, cut := range [][]api.Claim{c.c, turned(c.c), joined(c.c, c.c), among(c.c)} {
			l := having(had()...)
			l.Cut(cut)
			expect(t, "Own behind Cut", l.Own(), c.want, had(), cut)
			expectAnswers(t, l, cut, nil, claim.Neat(cut))
			l.Cut(cut)
			expect(t, "Own behind two Cuts", l.Own(), c.want, had(), cut)
		}
		one := having(had()...)
		for _, single := range c.c {
			one.Cut(list(single))
		}
		expect(t, "Own behind single Cuts", one.Own(), c.want, had(), c.c)
	}
}

func TestTheEndsOfAllMinutes(t *testing.T) {
	var ends, middle []api.Claim
	for room := range api.MaxRoom {
		ends = append(ends, of(room, 0, 1), of(room, lastMinute, api.MaxMinute))
		middle = append(middle, of(room, 1, lastMinute))
	}
	l := lease.New(0, 1)
	l.Cut(ends)
	expect(t, "Own", l.Own(), middle)
	expectAnswers(t, l, all(), middle, ends)
	l.Cut(middle)
	expect(t, "Own", l.Own(), nil)
	expectAnswers(t, l, all(), nil, all())
	l.Add(ends)
	expect(t, "Own", l.Own(), ends)
	expectAnswers(t, l, all(), ends, middle)
	l.Add(middle)
	expect(t, "Own", l.Own(), all())
	expectAnswers(t, l, all(), all(), nil)
}

func TestAddThenCut(t *testing.T) {
	for _, c := range [][]api.Claim{nil, list(of(2, 10, 20)), list(of(2, 15, 35), of(3, 1, 2)), had(), whole(2, 3), all()} {
		l := having(had()...)
		l.Add(c)
		l.Cut(c)
		expect(t, "Own behind Add and Cut", l.Own(), claim.Minus(had(), c), c)
		l = having(had()...)
		l.Cut(c)
		l.Add(c)
		expect(t, "Own behind Cut and Add", l.Own(), claim.Neat(joined(had(), c)), c)
	}
}

// P13.1: Copy

func TestCopy(t *testing.T) {
	for _, own := range [][]api.Claim{nil, had(), whole(2, 5), all()} {
		first := having(own...)
		second := first.Copy()
		expect(t, "Own of the copy", second.Own(), own)
		expectAnswers(t, second, all(), own, first.Lack(all()))
		second.Add(list(of(2, 18, 33), of(4, 5, 9)))
		second.Cut(list(of(7, 12, 15), of(5, 0, 1), of(0, 3, 4)))
		expect(t, "Own behind changes of the copy", first.Own(), own)
		changed := claim.Minus(joined(own, list(of(2, 18, 33), of(4, 5, 9))), list(of(7, 12, 15), of(5, 0, 1), of(0, 3, 4)))
		expect(t, "Own of the changed copy", second.Own(), changed)
		third := second.Copy()
		first.Add(all())
		first.Cut(whole(3))
		expect(t, "Own of the copy behind changes", second.Own(), changed)
		expect(t, "Own of the copy of the copy", third.Own(), changed)
		expect(t, "Own of what was copied", first.Own(), whole(0, 1, 2, 4, 5, 6, 7))
		second.Cut(all())
		expect(t, "Own of the copy of the copy", third.Own(), changed)
		third.Add(whole(3))
		expect(t, "Own of the cut copy", second.Own(), nil)
		expect(t, "Own of what was copied", first.Own(), whole(0, 1, 2, 4, 5, 6, 7))
	}
}
