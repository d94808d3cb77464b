package lease_test

import (
	"math"
	"slices"
	"testing"

	"hostelry/api"
	"hostelry/claim"
	"hostelry/lease"
)

// The methods of the chapter, with their signatures.
var _ interface {
	Own() []api.Claim
	Has(c []api.Claim) bool
	Part(c []api.Claim) []api.Claim
	Lack(c []api.Claim) []api.Claim
	Add(c []api.Claim)
	Cut(c []api.Claim)
	Copy() *lease.Lease
} = lease.New(0, 1)

// P13.1: New

// numbers are site numbers and numbers of sites, most of them out of range.
func numbers() []int {
	return []int{math.MinInt, math.MinInt + 1, math.MinInt32, -8, -4, -3, -2, -1, 0, 1, 2, 3, 4, 5, 6, 7, 8, 9, 12, math.MaxInt32, 1 << 32, math.MaxInt - 1, math.MaxInt}
}

// sites gives the site and the number of sites that two numbers count as, by
// the words of the chapter.
func sites(site, n int) (int, int) {
	if n < 1 {
		n = 1
	}
	if n > api.MaxSite {
		n = api.MaxSite
	}
	if site < 0 {
		site = 0
	}
	if site > n-1 {
		site = n - 1
	}
	return site, n
}

func TestNew(t *testing.T) {
	for _, n := range numbers() {
		for _, site := range numbers() {
			asSite, asN := sites(site, n)
			var want, others []api.Claim
			for room := range api.MaxRoom {
				if room%asN == asSite {
					want = append(want, of(room, 0, api.MaxMinute))
				} else {
					others = append(others, of(room, 0, api.MaxMinute))
				}
			}
			l := lease.New(site, n)
			if got := l.Own(); !slices.Equal(got, want) {
				t.Errorf("New(%d, %d) has %v, want %v", site, n, got, want)
			}
			expectAnswers(t, l, all(), want, others)
		}
	}
}

func TestTheRoomsOfASite(t *testing.T) {
	for _, c := range []struct {
		site, n int
		rooms   []int
	}{
		{0, 1, []int{0, 1, 2, 3, 4, 5, 6, 7}},
		{0, 2, []int{0, 2, 4, 6}},
		{1, 2, []int{1, 3, 5, 7}},
		{0, 3, []int{0, 3, 6}},
		{1, 3, []int{1, 4, 7}},
		{2, 3, []int{2, 5}},
		{0, 4, []int{0, 4}},
		{1, 4, []int{1, 5}},
		{2, 4, []int{2, 6}},
		{3, 4, []int{3, 7}},
		{0, 0, []int{0, 1, 2, 3, 4, 5, 6, 7}}, // as New(0, 1)
		{1, 1, []int{0, 1, 2, 3, 4, 5, 6, 7}},
		{3, -1, []int{0, 1, 2, 3, 4, 5, 6, 7}},
		{2, 2, []int{1, 3, 5, 7}}, // as New(1, 2)
		{-1, 3, []int{0, 3, 6}},
		{3, 3, []int{2, 5}},
		{4, 4, []int{3, 7}},
		{4, 5, []int{3, 7}}, // as New(3, 4)
		{3, 8, []int{3, 7}},
		{-1, 5, []int{0, 4}},
		{math.MaxInt, math.MaxInt, []int{3, 7}},
		{math.MinInt, math.MaxInt, []int{0, 4}},
		{math.MaxInt, math.MinInt, []int{0, 1, 2, 3, 4, 5, 6, 7}},
		{math.MinInt, math.MinInt, []int{0, 1, 2, 3, 4, 5, 6, 7}},
	} {
		if got := lease.New(c.site, c.n).Own(); !slices.Equal(got, whole(c.rooms...)) {
			t.Errorf("New(%d, %d) has %v, want the rooms %v", c.site, c.n, got, c.rooms)
		}
	}
}

// P13.2

func TestEachRoomMinuteIsOfOneSite(t *testing.T) {
	for n := 1; n <= api.MaxSite; n++ {
		var together []api.Claim
		for site := range n {
			own := lease.New(site, n).Own()
			expect(t, "Meet", claim.Meet(together, own), nil, together, own)
			together = append(together, own...)
		}
		expect(t, "Neat", claim.Neat(together), all(), together)
		for room := range api.MaxRoom {
			for _, m := range []int{0, 1, 2070, lastMinute - 1, lastMinute} {
				sites := 0
				for site := range n {
					if lease.New(site, n).Has(list(of(room, m, m+1))) {
						sites++
					}
				}
				if sites != 1 {
					t.Errorf("%d of %d sites have minute %d of room %d", sites, n, m, room)
				}
			}
		}
	}
}

func TestLeasesAreApart(t *testing.T) {
	a, b := lease.New(1, 2), lease.New(1, 2)
	a.Cut(list(of(3, 5, 9)))
	a.Add(list(of(2, 5, 9)))
	expect(t, "Own", b.Own(), whole(1, 3, 5, 7))
	expect(t, "Own", lease.New(1, 2).Own(), whole(1, 3, 5, 7))
	b.Cut(all())
	expect(t, "Own", a.Own(), list(of(1, 0, api.MaxMinute), of(2, 5, 9), of(3, 0, 5), of(3, 9, api.MaxMinute), of(5, 0, api.MaxMinute), of(7, 0, api.MaxMinute)))
}
