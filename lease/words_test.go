package lease_test

import (
	"math"
	"math/rand"
	"slices"
	"testing"

	"hostelry/api"
	"hostelry/claim"
	"hostelry/lease"
)

// P13.1, held against a plain table of minutes

// few are all claims in a few minutes of a room, one that is not valid among them.
func few(room int) []api.Claim {
	out := list(of(room, 2, 1))
	for from := range 4 {
		for to := from + 1; to <= 4; to++ {
			out = append(out, of(room, from, to))
		}
	}
	return out
}

func TestAllSmallLeases(t *testing.T) {
	for minutes := range 1 << 4 {
		l, want := emptied(), newTable(0, 0, 1)
		want.mark(all(), false)
		for m := range 4 {
			if minutes>>m&1 == 1 {
				l.Add(list(of(3, m, m+1)))
				want.mark(list(of(3, m, m+1)), true)
			}
		}
		for _, a := range few(3) {
			for _, b := range few(3) {
				c := list(a, b)
				check(t, l, want, c)
				added, cut := l.Copy(), l.Copy()
				wantAdded, wantCut := want.copied(), want.copied()
				added.Add(c)
				wantAdded.mark(c, true)
				check(t, added, wantAdded, c)
				cut.Cut(c)
				wantCut.mark(c, false)
				check(t, cut, wantCut, c)
				check(t, l, want, c)
				if t.Failed() {
					return
				}
			}
		}
	}
}

func TestManyAddsAndCuts(t *testing.T) {
	rnd := rand.New(rand.NewSource(13))
	for range 150 {
		first := []int{0, 1, 600, api.MaxMinute - wide - 1, api.MaxMinute - wide}[rnd.Intn(5)]
		n := 1 + rnd.Intn(api.MaxSite)
		site := rnd.Intn(n)
		l, want := lease.New(site, n), newTable(first, site, n)
		check(t, l, want, all())
		for range 60 {
			c := want.some(rnd, 6)
			if rnd.Intn(2) == 0 {
				l.Add(c)
				want.mark(c, true)
			} else {
				l.Cut(c)
				want.mark(c, false)
			}
			check(t, l, want, want.some(rnd, 6))
			if rnd.Intn(10) == 0 {
				l = l.Copy()
			}
			if t.Failed() {
				return
			}
		}
	}
}

func TestPartAndLackTogether(t *testing.T) {
	rnd := rand.New(rand.NewSource(131))
	many := func(most int) []api.Claim {
		out := make([]api.Claim, rnd.Intn(most))
		for i := range out {
			from := rnd.Intn(api.MaxMinute)
			out[i] = of(rnd.Intn(api.MaxRoom), from, from+rnd.Intn(api.MaxMinute/20))
		}
		return out
	}
	for range 300 {
		own, c := many(60), many(60)
		l := having(own...)
		part, lack := l.Part(c), l.Lack(c)
		expect(t, "Own", l.Own(), claim.Neat(own), own)
		expect(t, "Part", part, claim.Meet(c, own), own, c)
		expect(t, "Lack", lack, claim.Minus(c, own), own, c)
		expect(t, "Neat of Part and Lack", claim.Neat(joined(lack, part)), claim.Neat(c), own, c)
		expect(t, "Meet of Part and Lack", claim.Meet(part, lack), nil, own, c)
		if l.Has(c) != (len(lack) == 0) || !l.Has(part) || l.Has(lack) != (len(lack) == 0) {
			t.Errorf("Has of %v in %v is %v", c, own, l.Has(c))
		}
		if t.Failed() {
			return
		}
	}
}

func TestLongLists(t *testing.T) {
	const n = 100000
	even, odd := make([]api.Claim, n), make([]api.Claim, n)
	for i := range n {
		k := (i*7919 + 13) % n // each number once, far from ascending
		even[i], odd[i] = of(5, 2*k, 2*k+1), of(5, 2*k+1, 2*k+2)
	}
	both := list(of(5, 0, 2*n))
	l := having(even...)
	if own := l.Own(); !slices.Equal(own, claim.Neat(even)) {
		t.Fatalf("Own has %d claims", len(own))
	}
	if !l.Has(even) || l.Has(odd) || l.Has(both) || len(l.Part(odd)) != 0 || len(l.Lack(even)) != 0 {
		t.Error("it has what is odd, or not what is even")
	}
	if !slices.Equal(l.Part(both), claim.Neat(even)) || !slices.Equal(l.Lack(both), claim.Neat(odd)) {
		t.Error("Part and Lack are not even and odd")
	}
	l.Add(odd)
	expect(t, "Own", l.Own(), both)
	l.Cut(even)
	if !slices.Equal(l.Own(), claim.Neat(odd)) {
		t.Error("what is odd is not what is left")
	}
}

// The rules of DOC.md.

func spoil(l []api.Claim) {
	l = l[:cap(l)]
	for i := range l {
		l[i] = of(math.MaxInt, -99, -99)
	}
}

// calls are those that answer a list, of a lease that has some of what is asked for.
func calls(l *lease.Lease) map[string]func(c []api.Claim) []api.Claim {
	return map[string]func(c []api.Claim) []api.Claim{
		"Own":  func(c []api.Claim) []api.Claim { return l.Own() },
		"Part": l.Part,
		"Lack": l.Lack,
	}
}

// asked are arguments of the calls: neat ones, ones that are not, and such as come out whole.
func asked() [][]api.Claim {
	return [][]api.Claim{
		nil, list(of(2, 10, 20)), list(of(3, 10, 20)), had(), turned(had()), joined(had(), list(of(3, 1, 2), of(2, 15, 50))),
		all(), turned(all()), none(), among(had()),
	}
}

func TestArgumentsStayAsTheyWere(t *testing.T) {
	behind := list(of(0, 5, 9), of(-7, 1, 0), of(3, 0, 3))
	for _, a := range asked() {
		c := append(slices.Clone(a), behind...)
		was := slices.Clone(c)
		short := c[:len(a)]
		l := having(had()...)
		for name, call := range calls(l) {
			spoil(call(short))
			if !slices.Equal(c, was) {
				t.Fatalf("%s changed %v to %v", name, was, c)
			}
		}
		l.Has(short)
		l.Cut(short)
		l.Add(short)
		spoil(l.Own())
		if !slices.Equal(c, was) {
			t.Fatalf("Has, Cut or Add changed %v to %v", was, c)
		}
	}
}

func TestArgumentsAreNotKept(t *testing.T) {
	for _, a := range asked() {
		l, other := having(had()...), having(had()...)
		c := slices.Clone(a)
		l.Cut(c)
		other.Cut(a)
		spoil(c)
		expect(t, "Own behind Cut", l.Own(), other.Own(), a)
		c = slices.Clone(a)
		l.Add(c)
		other.Add(a)
		spoil(c)
		expect(t, "Own behind Add", l.Own(), other.Own(), a)
	}
}

func TestResultsAreNew(t *testing.T) {
	for _, a := range asked() {
		l := having(had()...)
		for name, call := range calls(l) {
			c := slices.Clone(a)
			first, second := call(c), call(c)
			want := slices.Clone(second)
			spare := slices.Clone(second[:cap(second)])
			spoil(c)
			spoil(first)
			if !slices.Equal(second, want) || !slices.Equal(second[:cap(second)], spare) {
				t.Errorf("%s of %v shares memory", name, a)
			}
			if got := call(a); !slices.Equal(got, want) {
				t.Errorf("%s of %v = %v after a change of an earlier result", name, a, got)
			}
			l.Cut(list(of(2, 12, 13)))
			if !slices.Equal(second, want) {
				t.Errorf("%s of %v changed with the lease", name, a)
			}
			l.Add(list(of(2, 12, 13)))
		}
		expect(t, "Own", l.Own(), had())
	}
}
