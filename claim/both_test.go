package claim_test

import (
	"testing"

	"hostelry/api"
	"hostelry/claim"
)

// P12.1: Meet, Minus and Same

func TestMeetAndMinus(t *testing.T) {
	a := list(of(3, 10, 20))
	for _, c := range []struct{ a, b, meet, minus []api.Claim }{
		{nil, nil, nil, nil},
		{nil, a, nil, nil},
		{a, nil, nil, a},
		{a, list(), nil, a},
		{a, a, a, nil},
		{a, list(of(2, 10, 20), of(4, 10, 20)), nil, a}, // no room in common
		{list(of(0, 5, 9), of(2, 5, 9)), list(of(1, 5, 9), of(3, 5, 9)), nil, list(of(0, 5, 9), of(2, 5, 9))},
		{a, list(of(3, 12, 15)), list(of(3, 12, 15)), list(of(3, 10, 12), of(3, 15, 20))}, // within
		{a, list(of(3, 10, 15)), list(of(3, 10, 15)), list(of(3, 15, 20))},
		{a, list(of(3, 15, 20)), list(of(3, 15, 20)), list(of(3, 10, 15))},
		{a, list(of(3, 11, 12)), list(of(3, 11, 12)), list(of(3, 10, 11), of(3, 12, 20))},
		{a, list(of(3, 5, 15)), list(of(3, 10, 15)), list(of(3, 15, 20))}, // over the beginning
		{a, list(of(3, 9, 11)), list(of(3, 10, 11)), list(of(3, 11, 20))},
		{a, list(of(3, 15, 25)), list(of(3, 15, 20)), list(of(3, 10, 15))}, // over the end
		{a, list(of(3, 19, 21)), list(of(3, 19, 20)), list(of(3, 10, 19))},
		{a, list(of(3, 5, 25)), a, nil}, // over all
		{a, list(of(3, 10, 25)), a, nil},
		{a, list(of(3, 5, 20)), a, nil},
		{a, list(of(3, 0, api.MaxMinute)), a, nil},
		{a, all(), a, nil},
		{a, list(of(3, 5, 10)), nil, a}, // they touch
		{a, list(of(3, 20, 25)), nil, a},
		{a, list(of(3, 5, 9)), nil, a},
		{a, list(of(3, 21, 25)), nil, a},
		{a, list(of(3, 5, 10), of(3, 20, 25)), nil, a},
		{a, list(of(3, 5, 11), of(3, 19, 25)), list(of(3, 10, 11), of(3, 19, 20)), list(of(3, 11, 19))},
		{a, list(of(3, 11, 12), of(3, 13, 14), of(3, 18, 30)), list(of(3, 11, 12), of(3, 13, 14), of(3, 18, 20)), list(of(3, 10, 11), of(3, 12, 13), of(3, 14, 18))},
		{
			list(of(3, 0, 5), of(3, 6, 9), of(3, 10, 20), of(3, 30, 40)), list(of(3, 4, 31)),
			list(of(3, 4, 5), of(3, 6, 9), of(3, 10, 20), of(3, 30, 31)), list(of(3, 0, 4), of(3, 31, 40)),
		},
		{list(of(0, 5, 9), of(3, 5, 9), of(7, 5, 9)), list(of(0, 6, 20), of(3, 0, 9), of(6, 5, 9)), list(of(0, 6, 9), of(3, 5, 9)), list(of(0, 5, 6), of(7, 5, 9))}, // several rooms
		{list(of(0, 5, 9), of(7, 5, 9)), list(of(0, 9, 20), of(7, 0, 5)), nil, list(of(0, 5, 9), of(7, 5, 9))},
		// Lists that are not neat.
		{list(of(3, 14, 20), of(0, 1, 2), of(3, 10, 16)), list(of(3, 15, 18), of(3, 12, 15), of(3, 13, 14)), list(of(3, 12, 18)), list(of(0, 1, 2), of(3, 10, 12), of(3, 18, 20))},
		{list(of(3, 10, 15), of(3, 15, 20)), list(of(3, 5, 15), of(3, 15, 25)), a, nil},
		{list(of(3, 10, 15), of(3, 15, 20)), list(of(3, 14, 16)), list(of(3, 14, 16)), list(of(3, 10, 14), of(3, 16, 20))},
		{list(of(7, 0, 9), of(0, 0, 9)), list(of(7, 4, 5), of(0, 5, 6)), list(of(0, 5, 6), of(7, 4, 5)), list(of(0, 0, 5), of(0, 6, 9), of(7, 0, 4), of(7, 5, 9))},
		// Both ends of all minutes.
		{list(of(0, 0, 1)), list(of(0, 0, 1)), list(of(0, 0, 1)), nil},
		{list(of(0, 0, 5)), list(of(0, 0, 1)), list(of(0, 0, 1)), list(of(0, 1, 5))},
		{list(of(7, lastMinute-5, api.MaxMinute)), list(of(7, lastMinute, api.MaxMinute)), list(of(7, lastMinute, api.MaxMinute)), list(of(7, lastMinute-5, lastMinute))},
		{list(of(7, 0, api.MaxMinute)), list(of(7, 0, 1), of(7, lastMinute, api.MaxMinute)), list(of(7, 0, 1), of(7, lastMinute, api.MaxMinute)), list(of(7, 1, lastMinute))},
		{list(of(7, 0, api.MaxMinute)), list(of(7, 1, lastMinute)), list(of(7, 1, lastMinute)), list(of(7, 0, 1), of(7, lastMinute, api.MaxMinute))},
		{all(), all(), all(), nil},
		{all(), nil, nil, all()},
		{all(), all()[1:], all()[1:], all()[:1]},
		{all(), all()[:7], all()[:7], all()[7:]},
	} {
		for _, first := range [][]api.Claim{c.a, turned(c.a), joined(c.a, c.a), among(c.a)} {
			for _, second := range [][]api.Claim{c.b, turned(c.b), joined(c.b, c.b), among(c.b)} {
				expect(t, "Meet", claim.Meet(first, second), c.meet, first, second)
				expect(t, "Meet", claim.Meet(second, first), c.meet, second, first)
				expect(t, "Minus", claim.Minus(first, second), c.minus, first, second)
			}
		}
		checkBoth(t, c.a, c.b)
		checkBoth(t, c.b, c.a)
	}
}

func TestMeetAndMinusOfClaimsThatAreNotValid(t *testing.T) {
	a := list(of(0, 0, 9), of(3, 5, 9), of(7, 100, api.MaxMinute))
	expect(t, "Meet", claim.Meet(none(), none()), nil)
	expect(t, "Minus", claim.Minus(none(), none()), nil)
	for _, c := range none() {
		for _, l := range [][]api.Claim{a, all()} {
			expect(t, "Meet", claim.Meet(l, list(c)), nil, l, list(c))
			expect(t, "Meet", claim.Meet(list(c), l), nil, list(c), l)
			expect(t, "Minus", claim.Minus(l, list(c)), l, l, list(c))
			expect(t, "Minus", claim.Minus(list(c), l), nil, list(c), l)
		}
		expect(t, "Meet", claim.Meet(list(c), list(c)), nil, list(c))
		expect(t, "Minus", claim.Minus(list(c), nil), nil, list(c))
	}
}

// nearly gives lists that have one room minute less, more or elsewhere than this one.
func nearly() ([]api.Claim, [][]api.Claim) {
	return list(of(0, 5, 9), of(3, 5, 9), of(3, 20, 30)), [][]api.Claim{
		list(of(0, 5, 9), of(3, 5, 9), of(3, 20, 29)),
		list(of(0, 5, 9), of(3, 5, 9), of(3, 20, 31)),
		list(of(0, 5, 9), of(3, 5, 9), of(3, 21, 30)),
		list(of(0, 5, 9), of(3, 5, 9), of(3, 19, 30)),
		list(of(0, 5, 9), of(3, 5, 9), of(3, 21, 31)),
		list(of(0, 6, 9), of(3, 5, 9), of(3, 20, 30)),
		list(of(0, 4, 9), of(3, 5, 9), of(3, 20, 30)),
		list(of(0, 5, 9), of(3, 5, 9), of(3, 20, 25), of(3, 26, 30)),
		list(of(1, 5, 9), of(3, 5, 9), of(3, 20, 30)),
		list(of(0, 5, 9), of(3, 5, 9), of(4, 20, 30)),
		list(of(0, 5, 9), of(4, 5, 9), of(4, 20, 30)),
		list(of(0, 5, 9), of(3, 5, 9), of(3, 20, 30), of(7, 0, 1)),
		list(of(0, 5, 9), of(3, 5, 9)),
		list(of(3, 5, 9), of(3, 20, 30)),
		list(of(0, 5, 9), of(3, 5, 30)),
		all(),
		nil,
		none(),
	}
}

func expectSame(t *testing.T, want bool, a, b []api.Claim) {
	t.Helper()
	if got := claim.Same(a, b); got != want {
		t.Errorf("Same(%v, %v) = %v", a, b, got)
	}
	if got := claim.Same(b, a); got != want {
		t.Errorf("Same(%v, %v) = %v", b, a, got)
	}
}

func TestSame(t *testing.T) {
	a, others := nearly()
	same := [][]api.Claim{
		a, turned(a), joined(a, a), among(a),
		list(of(3, 20, 30), of(0, 5, 9), of(3, 5, 9)),
		list(of(0, 5, 6), of(0, 6, 9), of(3, 5, 9), of(3, 20, 30)), // parted
		list(of(3, 25, 30), of(3, 20, 25), of(0, 5, 9), of(3, 5, 9)),
		list(of(0, 5, 9), of(3, 5, 9), of(3, 20, 30), of(3, 22, 24), of(3, 29, 30)), // joined
		list(of(0, 5, 8), of(0, 6, 9), of(3, 5, 9), of(3, 5, 6), of(3, 20, 28), of(3, 21, 30)),
	}
	for _, b := range same {
		for _, c := range same {
			expectSame(t, true, b, c)
		}
		for _, c := range others {
			expectSame(t, false, b, c)
		}
	}
	for i, b := range others[:len(others)-2] {
		for j, c := range others {
			expectSame(t, i == j, b, c)
		}
	}
	empty := [][]api.Claim{nil, {}, none(), none()[:1], list(of(-1, 0, 5)), list(of(0, 5, 5))}
	for _, b := range empty {
		for _, c := range empty {
			expectSame(t, true, b, c)
		}
		expectSame(t, false, b, list(of(0, 0, 1)))
		expectSame(t, false, b, list(of(7, lastMinute, api.MaxMinute)))
	}
	expectSame(t, true, all(), turned(all()))
	expectSame(t, false, all(), all()[1:])
}
