package deed_test

import (
	"cmp"
	"math"
	"slices"
	"testing"

	"hostelry/api"
	"hostelry/deed"
)

// P14.1: IsID

func TestIsIDAtItsEdges(t *testing.T) {
	seqs := append(far(), -1, 0, 1, 2, api.MaxSeq-1, api.MaxSeq, api.MaxSeq+1)
	sites := append(far(), -1, 0, 1, 2, lastSite, api.MaxSite, api.MaxSite+1)
	for _, seq := range seqs {
		for _, site := range sites {
			want := seq >= 1 && seq <= 1000000 && site >= 0 && site <= 3
			expect(t, "IsID", deed.IsID, id(seq, site), want)
		}
	}
}

func TestIsIDOfTheLeastAndTheGreatest(t *testing.T) {
	for _, i := range []api.ID{id(1, 0), id(1, lastSite), id(api.MaxSeq, 0), id(api.MaxSeq, lastSite), id(3, 1)} {
		expect(t, "IsID", deed.IsID, i, true)
	}
	for _, i := range []api.ID{
		{}, id(0, 0), id(0, 1), id(0, lastSite), id(api.MaxSeq+1, 0), id(api.MaxSeq+1, lastSite),
		id(1, -1), id(api.MaxSeq, -1), id(1, api.MaxSite), id(api.MaxSeq, api.MaxSite),
		id(math.MinInt, 0), id(math.MaxInt, 0), id(1, math.MinInt), id(1, math.MaxInt),
		id(math.MinInt, math.MinInt), id(math.MaxInt, math.MaxInt), id(-1, -1),
	} {
		expect(t, "IsID", deed.IsID, i, false)
	}
}

// P14.1: Before

func TestBefore(t *testing.T) {
	for _, x := range []struct {
		a, b api.ID
		want bool
	}{
		{id(1, 0), id(2, 0), true}, // by Seq alone
		{id(2, 0), id(1, 0), false},
		{id(1, 3), id(2, 0), true}, // by Seq first
		{id(2, 0), id(1, 3), false},
		{id(1, 0), id(2, 3), true},
		{id(1, 0), id(1, 1), true}, // by Site alone
		{id(1, 1), id(1, 0), false},
		{id(1, 1), id(1, 1), false}, // equal
		{id(api.MaxSeq, lastSite), id(api.MaxSeq, lastSite), false},
		{id(api.MaxSeq, 2), id(api.MaxSeq, lastSite), true},
		{id(9, 0), id(10, 0), true}, // as numbers, not as texts
		{id(10, 0), id(9, 0), false},
		{id(0, 0), id(0, 0), false}, // not valid
		{id(0, 0), id(1, 0), true},
		{id(-1, 9), id(0, -9), true},
		{id(1, -1), id(1, 0), true},
		{id(1, 0), id(1, -1), false},
		{id(math.MinInt, 0), id(math.MaxInt, 0), true}, // not by their difference
		{id(math.MaxInt, 0), id(math.MinInt, 0), false},
		{id(1, math.MinInt), id(1, math.MaxInt), true},
		{id(1, math.MaxInt), id(1, math.MinInt), false},
		{id(math.MinInt, math.MaxInt), id(math.MaxInt, math.MinInt), true},
	} {
		if got := deed.Before(x.a, x.b); got != x.want {
			t.Errorf("Before(%v, %v) = %v", x.a, x.b, got)
		}
	}
}

func TestBeforeOfAllPairs(t *testing.T) {
	numbers := append(far(), -1, 0, 1, 2, 3, api.MaxSeq, api.MaxSeq+1)
	slices.Sort(numbers)
	var ids []api.ID // ascending
	for _, seq := range numbers {
		for _, site := range numbers {
			ids = append(ids, id(seq, site))
		}
	}
	for i, a := range ids {
		for j, b := range ids {
			if got := deed.Before(a, b); got != (i < j) {
				t.Fatalf("Before(%v, %v) = %v", a, b, got)
			}
		}
	}
}

func TestBeforeOrders(t *testing.T) {
	l := []api.ID{id(2, 1), id(1, 3), id(2, 0), id(1, 0), id(3, 0), id(1, 3), id(2, 1)}
	slices.SortFunc(l, func(a, b api.ID) int {
		return cmp.Or(-count(deed.Before(a, b)), count(deed.Before(b, a)))
	})
	want := []api.ID{id(1, 0), id(1, 3), id(1, 3), id(2, 0), id(2, 1), id(2, 1), id(3, 0)}
	if !slices.Equal(l, want) {
		t.Errorf("ordered: %v, want %v", l, want)
	}
}

func count(is bool) int {
	if is {
		return 1
	}
	return 0
}
