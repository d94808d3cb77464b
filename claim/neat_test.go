package claim_test

import (
	"testing"

	"hostelry/api"
	"hostelry/claim"
)

// P12.1: Neat and Long

func TestNeat(t *testing.T) {
	for _, c := range []struct{ l, want []api.Claim }{
		{nil, nil},
		{list(), nil},
		{list(of(3, 5, 9)), list(of(3, 5, 9))},
		{list(of(0, 0, 1)), list(of(0, 0, 1))},
		{list(of(7, lastMinute, api.MaxMinute)), list(of(7, lastMinute, api.MaxMinute))},
		{list(of(3, 5, 9), of(3, 5, 9)), list(of(3, 5, 9))},
		{list(of(3, 0, 5), of(3, 5, 9)), list(of(3, 0, 9))}, // they touch
		{list(of(3, 5, 9), of(3, 0, 5)), list(of(3, 0, 9))},
		{list(of(3, 0, 6), of(3, 4, 9)), list(of(3, 0, 9))}, // they overlap
		{list(of(3, 4, 9), of(3, 0, 6)), list(of(3, 0, 9))},
		{list(of(3, 0, 20), of(3, 4, 9)), list(of(3, 0, 20))}, // one lies within the other
		{list(of(3, 4, 9), of(3, 0, 20)), list(of(3, 0, 20))},
		{list(of(3, 0, 20), of(3, 0, 9)), list(of(3, 0, 20))},
		{list(of(3, 0, 20), of(3, 9, 20)), list(of(3, 0, 20))},
		{list(of(3, 0, 5), of(3, 6, 9)), list(of(3, 0, 5), of(3, 6, 9))}, // they are a minute apart
		{list(of(3, 6, 9), of(3, 0, 5)), list(of(3, 0, 5), of(3, 6, 9))},
		{list(of(3, 0, 5), of(3, 6, 9), of(3, 5, 6)), list(of(3, 0, 9))},
		{list(of(3, 0, 20), of(3, 4, 9), of(3, 21, 22)), list(of(3, 0, 20), of(3, 21, 22))},
		{list(of(3, 5, 9), of(4, 5, 9)), list(of(3, 5, 9), of(4, 5, 9))}, // the same in two rooms
		{list(of(4, 5, 9), of(3, 5, 9)), list(of(3, 5, 9), of(4, 5, 9))},
		{list(of(4, 0, 5), of(3, 5, 9)), list(of(3, 5, 9), of(4, 0, 5))}, // in two rooms nothing touches
		{list(of(3, 0, 5), of(4, 5, 9)), list(of(3, 0, 5), of(4, 5, 9))},
		{list(of(3, 0, 6), of(4, 4, 9)), list(of(3, 0, 6), of(4, 4, 9))},
		{list(of(7, 5, 9), of(0, 5, 9)), list(of(0, 5, 9), of(7, 5, 9))}, // the rooms at both ends
		{
			list(of(5, 8, 9), of(0, 3, 4), of(7, 0, 1), of(0, 1, 2), of(5, 6, 7), of(7, 1, 2), of(0, 2, 3)),
			list(of(0, 1, 4), of(5, 6, 7), of(5, 8, 9), of(7, 0, 2)),
		},
		{list(of(0, 1, api.MaxMinute), of(0, 0, 1)), list(of(0, 0, api.MaxMinute))},
		{list(of(7, 0, lastMinute), of(7, lastMinute, api.MaxMinute)), list(of(7, 0, api.MaxMinute))},
		{list(of(7, 0, lastMinute-1), of(7, lastMinute, api.MaxMinute)), list(of(7, 0, lastMinute-1), of(7, lastMinute, api.MaxMinute))},
		{all(), all()},
		{turned(all()), all()},
		{joined(all(), turned(all())), all()},
	} {
		expect(t, "Neat", claim.Neat(c.l), c.want, c.l)
		expect(t, "Neat", claim.Neat(turned(c.l)), c.want, turned(c.l))
		expect(t, "Neat", claim.Neat(joined(c.l, c.l)), c.want, c.l, c.l)
		// What is neat stays as it is.
		expect(t, "Neat", claim.Neat(c.want), c.want, c.want)
		// What is not valid has no room minutes.
		expect(t, "Neat", claim.Neat(among(c.l)), c.want, among(c.l))
		check(t, c.l)
	}
}

func TestNeatOfClaimsThatAreNotValid(t *testing.T) {
	expect(t, "Neat", claim.Neat(none()), nil)
	for _, c := range none() {
		expect(t, "Neat", claim.Neat(list(c)), nil, list(c))
		expect(t, "Neat", claim.Neat(list(c, c)), nil, list(c, c))
		expect(t, "Neat", claim.Neat(list(of(0, 5, 9), c, of(7, 5, 9))), list(of(0, 5, 9), of(7, 5, 9)), list(c))
		expect(t, "Neat", claim.Neat(list(c, of(3, 5, 9), of(3, 9, 12), c)), list(of(3, 5, 12)), list(c))
	}
	// They close no gap, and open none.
	expect(t, "Neat", claim.Neat(list(of(3, 0, 5), of(3, 8, 6), of(3, 6, 9), of(3, 5, 5), of(3, -1, 9))), list(of(3, 0, 5), of(3, 6, 9)))
	expect(t, "Neat", claim.Neat(list(of(3, 0, 5), of(8, 4, 7), of(-1, 4, 7), of(3, 6, 9))), list(of(3, 0, 5), of(3, 6, 9)))
	expect(t, "Neat", claim.Neat(list(of(3, lastMinute-9, lastMinute), of(3, lastMinute, api.MaxMinute+1))), list(of(3, lastMinute-9, lastMinute)))
}

func TestLong(t *testing.T) {
	for _, c := range []struct {
		l    []api.Claim
		want int
	}{
		{nil, 0},
		{list(), 0},
		{none(), 0},
		{list(of(3, 5, 9)), 4},
		{list(of(3, 5, 6)), 1},
		{list(of(3, 2070, 2130), of(4, 2070, 2130)), 120}, // two rooms for one hour
		{list(of(3, 5, 9), of(3, 5, 9)), 4},
		{list(of(3, 0, 5), of(3, 5, 9)), 9},
		{list(of(3, 0, 6), of(3, 4, 9)), 9},
		{list(of(3, 0, 20), of(3, 4, 9)), 20},
		{list(of(3, 0, 5), of(3, 6, 9)), 8},
		{list(of(3, 0, 6), of(4, 4, 9)), 11},
		{list(of(0, 0, 6), of(7, 4, 9), of(0, 4, 9), of(7, 0, 6)), 18},
		{list(of(0, 0, api.MaxMinute)), api.MaxMinute},
		{list(of(0, 0, api.MaxMinute), of(7, 0, api.MaxMinute), of(7, 0, lastMinute)), 2 * api.MaxMinute},
		{list(of(0, 0, api.MaxMinute), of(7, 1, lastMinute)), 2*api.MaxMinute - 2},
		{all(), 8 * 52596000},
		{joined(all(), turned(all()), all(), all(), all(), all()), 8 * 52596000},
	} {
		for _, l := range [][]api.Claim{c.l, turned(c.l), joined(c.l, c.l), among(c.l), claim.Neat(c.l)} {
			if got := claim.Long(l); got != c.want {
				t.Errorf("Long(%v) = %d, want %d", l, got, c.want)
			}
		}
	}
	for _, c := range none() {
		if got := claim.Long(list(c)); got != 0 {
			t.Errorf("Long of %v = %d", c, got)
		}
		if got := claim.Long(list(c, of(3, 5, 9), c)); got != 4 {
			t.Errorf("Long with %v = %d", c, got)
		}
	}
}
