package slate_test

import (
	"math"
	"slices"
	"strings"
	"testing"

	"hostelry/api"
	"hostelry/slate"
)

// some are lists that a Write may be given.
func some() [][]string {
	return [][]string{
		nil, list(), list(""), list("a"), list("abcd"), list("", ""), list("a", "bc"), list("abc", "", "de"),
		list("", "a", "", ""), list(otherBytes(), "\r", "\x00"), list(strings.Repeat("x", 200), strings.Repeat("y", 100)),
	}
}

// P16.2: Limit and On

func TestTheExample(t *testing.T) {
	s := slate.New()
	s.Limit(3)
	expect(t, s, "", true)
	expectWrite(t, s, list("abcd"), api.ErrPower)
	expect(t, s, "abc", false)
	if l := s.Lines(); len(l) != 0 {
		t.Errorf("Lines = %q", l)
	}
	s.Rise()
	expect(t, s, "", true)
}

// Each list with each limit up to more than it wants: as many bytes as it allows.
func TestEachLimit(t *testing.T) {
	for _, l := range some() {
		want := text(l...)
		for _, was := range list("", "a\n", "a\ntorn") {
			for limit := range len(want) {
				s := slate.Of(was)
				s.Limit(limit)
				expect(t, s, was, true) // the limit alone takes no power
				expectWrite(t, s, l, api.ErrPower)
				expect(t, s, was+want[:limit], false)
				expectWrite(t, s, l, api.ErrPower)
				expect(t, s, was+want[:limit], false)
				s.Rise()
				expect(t, s, wholeOf(was+want[:limit]), true)
				expectEndless(t, s)
			}
			for more := range 4 {
				s := slate.Of(was)
				s.Limit(len(want) + more)
				expectWrite(t, s, l, api.OK)
				expect(t, s, was+want, true)
				expectLimit(t, s, more)
			}
		}
		if t.Failed() {
			return
		}
	}
}

func TestLimitsBelowZero(t *testing.T) {
	for _, limit := range []int{0, -1, -2, -100, math.MinInt32, math.MinInt + 1, math.MinInt} {
		s := slate.Of("a\n")
		s.Limit(limit)
		expect(t, s, "a\n", true)
		for range 3 {
			expectWrite(t, s, nil, api.OK) // it needs no bytes
			expectWrite(t, s, list(), api.OK)
			expect(t, s, "a\n", true)
		}
		expectWrite(t, s, list(""), api.ErrPower)
		expect(t, s, "a\n", false)
		s = slate.Of("a\n")
		s.Limit(limit)
		expectWrite(t, s, list("bc"), api.ErrPower)
		expect(t, s, "a\n", false)
	}
}

func TestGreatLimits(t *testing.T) {
	for _, limit := range []int{math.MaxInt, math.MaxInt - 1, math.MaxInt32, math.MaxInt32 + 1, math.MaxUint32, 1 << 40} {
		s := slate.Of("a\ntorn")
		s.Limit(limit)
		expect(t, s, "a\ntorn", true)
		expectEndless(t, s)
		s.Limit(2)
		expectLimit(t, s, 2)
	}
}

func TestWritesOfNothingTakeNoPower(t *testing.T) {
	s := slate.New()
	s.Limit(2)
	for range 5 {
		expectWrite(t, s, nil, api.OK)
	}
	expectWrite(t, s, list("a"), api.OK)
	for range 5 {
		expectWrite(t, s, list(), api.OK)
		expect(t, s, "a\n", true)
	}
	expectLimit(t, s, 0)
}

// Writes that use up a limit between them, one of which falls short.
func TestSeveralWritesUnderOneLimit(t *testing.T) {
	s := slate.New()
	s.Limit(10)
	expectWrite(t, s, list("abc"), api.OK)
	expect(t, s, "abc\n", true)
	expectWrite(t, s, list("", "d"), api.OK)
	expect(t, s, "abc\n\nd\n", true)
	expectWrite(t, s, nil, api.OK)
	expectWrite(t, s, list("e", "fgh", "i"), api.ErrPower)
	expect(t, s, "abc\n\nd\ne\nf", false)
	for _, l := range [][]string{nil, list(""), list("j"), list("k\n")} {
		expectWrite(t, s, l, api.ErrPower)
		expect(t, s, "abc\n\nd\ne\nf", false)
	}
	s.Rise()
	expect(t, s, "abc\n\nd\ne\n", true)
}

func TestLimitUsedUpToItsLastByte(t *testing.T) {
	s := slate.New()
	s.Limit(9)
	for i := range 3 {
		expectWrite(t, s, list("ab"), api.OK)
		expect(t, s, strings.Repeat("ab\n", i+1), true)
	}
	expectWrite(t, s, nil, api.OK)
	expect(t, s, "ab\nab\nab\n", true)
	expectWrite(t, s, list(""), api.ErrPower)
	expect(t, s, "ab\nab\nab\n", false)
	s.Rise()
	expect(t, s, "ab\nab\nab\n", true)
}

// A limit counts from when it is set, whatever there was before.
func TestLimitSetAnew(t *testing.T) {
	for _, first := range []int{0, 1, 2, 3, 5, 100, math.MaxInt} {
		for _, second := range []int{-1, 0, 1, 2, 3, 5, 100} {
			s := slate.Of("torn")
			s.Limit(first)
			s.Limit(second)
			expect(t, s, "torn", true)
			expectLimit(t, s, max(second, 0))
			s = slate.New()
			s.Limit(first + min(2, math.MaxInt-first))
			expectWrite(t, s, list("a"), api.OK)
			s.Limit(second)
			expect(t, s, "a\n", true)
			expectLimit(t, s, max(second, 0))
		}
	}
	s := slate.New()
	s.Limit(2)
	expectWrite(t, s, list("a"), api.OK)
	s.Limit(3) // the old one is used up, but the power is on yet
	expectWrite(t, s, list("bc"), api.OK)
	expect(t, s, "a\nbc\n", true)
	expectLimit(t, s, 0)
}

func TestLimitWithoutPower(t *testing.T) {
	for _, limit := range []int{math.MinInt, -1, 0, 1, 5, 1000, math.MaxInt} {
		s := off(t, "a\ntorn")
		s.Limit(limit)
		expect(t, s, "a\ntorn", false)
		expectWrite(t, s, nil, api.ErrPower)
		expectWrite(t, s, list("b"), api.ErrPower)
		expect(t, s, "a\ntorn", false)
		s.Limit(limit)
		s.Rise()
		expect(t, s, "a\n", true)
		expectEndless(t, s)
	}
}

// P16.2: Rise

func TestRise(t *testing.T) {
	for _, was := range append(before(), "t", "torn\x00\r", "a\n\n\n", "a\nb\nt", "\n\xff\x8a", strings.Repeat("a\n", 1000)+strings.Repeat("t", 1000)) {
		limited, used := slate.Of(was), slate.Of(was)
		limited.Limit(1)
		used.Limit(0)
		for _, s := range []*slate.Slate{slate.Of(was), limited, used, off(t, was)} {
			for range 3 {
				s.Rise()
				expect(t, s, wholeOf(was), true)
			}
			expectEndless(t, s)
		}
	}
}

func TestLongWriteBehindRise(t *testing.T) {
	long := strings.Repeat("x", 5000000)
	limited := slate.Of("a\ntorn")
	limited.Limit(3)
	for _, s := range []*slate.Slate{limited, off(t, "a\ntorn")} {
		s.Rise()
		expectWrite(t, s, list(long, long), api.OK)
		expect(t, s, "a\n"+text(long, long), true)
	}
}

func TestLimitBehindRise(t *testing.T) {
	s := off(t, "a\ntorn")
	s.Rise()
	s.Limit(4)
	expect(t, s, "a\n", true)
	expectWrite(t, s, list("b"), api.OK)
	expectWrite(t, s, list("cdef"), api.ErrPower)
	expect(t, s, "a\nb\ncd", false)
	s.Rise()
	expect(t, s, "a\nb\n", true)
	expectWrite(t, s, list("g"), api.OK)
	expect(t, s, "a\nb\ng\n", true)
}

// P16.3: A line that was written completely stays

// Every place at which the power can go off in a row of Writes: what is still
// there are the whole lines that came before.
func TestEachPlaceOfARowOfWrites(t *testing.T) {
	row := slices.Concat(some(), some())
	var all []string
	for _, l := range row {
		all = append(all, l...)
	}
	const was = "earlier\n\n"
	whole := text(all...)
	for limit := range len(whole) + 3 {
		s := slate.Of(was)
		s.Limit(limit)
		stays, left, on := 0, limit, true
		for _, l := range row {
			on = on && len(text(l...)) <= left
			if !on {
				expectWrite(t, s, l, api.ErrPower)
				continue
			}
			expectWrite(t, s, l, api.OK)
			left -= len(text(l...))
			stays += len(l)
		}
		want := was + whole[:min(limit, len(whole))]
		expect(t, s, want, on)
		s.Rise()
		expect(t, s, wholeOf(want), true)
		lines := s.Lines()
		n := len(lines) - 2
		if n < stays || n > len(all) || !slices.Equal(lines[:2], list("earlier", "")) || !slices.Equal(lines[2:], all[:n]) {
			t.Errorf("with a limit of %d, %d lines are there still, and %d were written", limit, n, stays)
		}
		if t.Failed() {
			return
		}
	}
}

// The power goes off again and again, and each time the rest is written anew.
func TestPowerGoesOffAgainAndAgain(t *testing.T) {
	all := list("one", "", "three", "four four", "five", strings.Repeat("six", 5), "", "eight", "nine")
	for limit := range 25 {
		s := slate.New()
		for range 100 {
			s.Limit(limit)
			done := len(s.Lines())
			if s.Write(all[done:]) == api.OK {
				break
			}
			s.Rise()
			if now := s.Lines(); len(now) < done || !slices.Equal(now, all[:len(now)]) {
				t.Fatalf("with a limit of %d, the lines are %q", limit, now)
			}
		}
		longest := len(text(all[5]))
		if done := len(s.Lines()) == len(all); done != (limit >= longest) || !s.On() {
			t.Errorf("with a limit of %d, the lines are %q", limit, s.Lines())
		}
	}
}
