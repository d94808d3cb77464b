package scribe_test

import (
	"math/rand"
	"strconv"
	"strings"
	"testing"

	"hostelry/api"
	"hostelry/scribe"
)

// P15.2: Read of lines in which one byte is another one, missing or too much,
// or that end too early

// shortLines are those of a deed of each kind, which are short enough to try everything.
func shortLines(t *testing.T) []string {
	t.Helper()
	var out []string
	for _, kind := range kinds() {
		out = append(out, lineOf(t, small(kind)), lineOf(t, usual(kind)))
	}
	return out
}

// longLines are as long as they can be.
func longLines(t *testing.T) []string {
	t.Helper()
	var out []string
	for _, kind := range kinds() {
		out = append(out, lineOf(t, great(kind)))
	}
	return out
}

func TestEachByteOfShortLines(t *testing.T) {
	for _, s := range shortLines(t) {
		spoilEachByte(t, s)
	}
}

// Lines that are long, but not so long that there is no time to try everything.
func TestEachByteOfLongLines(t *testing.T) {
	for _, kind := range kinds() {
		d := great(kind)
		if len(d.Claims) > 0 {
			d.Claims = claims(20)
		}
		s := lineOf(t, d)
		t.Run(strconv.Itoa(kind), func(t *testing.T) {
			t.Parallel()
			spoilEachByte(t, s)
		})
	}
}

// spoilEachByte tries each value at each place of a line, and each end.
func spoilEachByte(t *testing.T, s string) {
	t.Helper()
	for i := range len(s) {
		for b := range 256 {
			changeByte(t, s, i, byte(b))
			insertByte(t, s, i, byte(b))
		}
		removeByte(t, s, i)
		expectSpoilt(t, s[:i])
		expectSpoilt(t, s[i+1:])
	}
	for b := range 256 {
		insertByte(t, s, len(s), byte(b))
	}
}

// All that lines are made of, and at each place some of the others, which are all there in turn.
func TestEachByteOfTheLongestLines(t *testing.T) {
	for _, s := range longLines(t) {
		values := []byte("0123456789 -+\n")
		for i := range len(s) {
			for _, b := range append(values, byte(7*i), byte(7*i+101), s[i]^1, s[i]^128) {
				changeByte(t, s, i, b)
				insertByte(t, s, i, b)
			}
			removeByte(t, s, i)
			expectSpoilt(t, s[:i])
		}
	}
}

func changeByte(t *testing.T, s string, i int, b byte) {
	t.Helper()
	if s[i] != b {
		expectSpoilt(t, s[:i]+string([]byte{b})+s[i+1:])
	}
}

func insertByte(t *testing.T, s string, i int, b byte) {
	t.Helper()
	expectSpoilt(t, s[:i]+string([]byte{b})+s[i:])
}

func removeByte(t *testing.T, s string, i int) {
	t.Helper()
	expectSpoilt(t, s[:i]+s[i+1:])
}

// Two deeds whose texts differ by a byte that one of them has more, but which
// have the same sum: their length alone tells which of them was written.
func TestTheSameSum(t *testing.T) {
	var lines, sums []string
	for _, to := range []int{123456, 1423456} {
		s := lineOf(t, api.Deed{Kind: api.DGive, Claims: list(of(0, 55023, to)), N: 517})
		lines, sums = append(lines, s), append(sums, strings.Split(s, " ")[1])
	}
	if sums[0] != sums[1] {
		t.Errorf("the sums are not the same: %q", lines)
	}
	for i := range len(lines[0]) {
		insertByte(t, lines[0], i, '4')
		removeByte(t, lines[1], i)
	}
}

// A text, sealed again, after each change of one byte: it is not a line, or it
// is that of another deed.
func TestEachByteOfTheTexts(t *testing.T) {
	for _, kind := range kinds() {
		for _, d := range []api.Deed{small(kind), usual(kind)} {
			s := scribe.Written(d)
			for i := range len(s) {
				for b := range 256 {
					expectOwn(t, scribe.Sealed(s[:i]+string([]byte{byte(b)})+s[i+1:]))
					expectOwn(t, scribe.Sealed(s[:i]+string([]byte{byte(b)})+s[i:]))
				}
				expectOwn(t, scribe.Sealed(s[:i]+s[i+1:]))
				expectOwn(t, scribe.Sealed(s[i+1:]+" "+s[:i]))
			}
		}
	}
}

func TestNeighboursThatChangeTheirPlaces(t *testing.T) {
	for _, s := range append(shortLines(t), longLines(t)...) {
		for i := 1; i < len(s); i++ {
			expectOwn(t, s[:i-1]+string([]byte{s[i], s[i-1]})+s[i+1:])
		}
	}
}

// Lines that are spoilt at several places at once.
func TestManyBytes(t *testing.T) {
	rnd := rand.New(rand.NewSource(15))
	lines := append(shortLines(t), longLines(t)...)
	for range 20000 {
		s := []byte(lines[rnd.Intn(len(lines))])
		for range 2 + rnd.Intn(4) {
			i, b := rnd.Intn(len(s)), "0123456789 -\x00\xff"[rnd.Intn(14)]
			switch rnd.Intn(3) {
			case 0:
				s[i] = b
			case 1:
				s = append(s[:i], s[i+1:]...)
			case 2:
				s = append(s[:i], append([]byte{b}, s[i:]...)...)
			}
		}
		expectOwn(t, string(s))
	}
}

// Texts of any bytes, and of those of a line.
func TestAnyBytes(t *testing.T) {
	rnd := rand.New(rand.NewSource(150))
	for range 20000 {
		any, like := make([]byte, rnd.Intn(60)), make([]byte, rnd.Intn(60))
		rnd.Read(any)
		for i := range like {
			like[i] = "0123456789   -"[rnd.Intn(14)]
		}
		expectSpoilt(t, string(any))
		expectSpoilt(t, string(like))
		expectOwn(t, scribe.Sealed(string(any)))
		expectOwn(t, scribe.Sealed(string(like)))
	}
}
