package line_test

import (
	"math/rand"
	"strings"
	"testing"

	"hostelry/api"
	"hostelry/fold"
	"hostelry/line"
)

// P9.1: Join

func TestJoinWhatIsNotTooLong(t *testing.T) {
	expectJoin(t, "BEGIN", "VEVENT", "BEGIN:VEVENT")
	expectJoin(t, "BEGIN", "vevent", "BEGIN:vevent")
	expectJoin(t, "X-ROOMS", "1:2", "X-ROOMS:1:2")
	expectJoin(t, "SUMMARY", "", "SUMMARY:")
	expectJoin(t, "SUMMARY", " a", "SUMMARY: a")
	expectJoin(t, "SUMMARY", ":", "SUMMARY::")
	expectJoin(t, "A", "a\r\nb", "A:a\r\nb")
	expectJoin(t, "A", `a\,b,c`, `A:a\,b,c`)
	for _, value := range values() {
		if len(value) <= api.MaxLine-2 {
			expectJoin(t, "A", value, "A:"+value)
		}
	}
}

func TestJoinAnyName(t *testing.T) {
	expectJoin(t, "", "", ":")
	expectJoin(t, "", "a", ":a")
	expectJoin(t, "", ":", "::")
	for _, s := range append(beyond(), "begin", "Begin", "x-Rooms", " ", " A", "A ", "A:B", ":", "A:", ":A", "A;B=C", "A_B", "\r\n", "\r\n A", "\x00", name(21), letters(40)) {
		expectJoin(t, s, "", s+":")
		expectJoin(t, s, "vEvEnT", s+":vEvEnT")
		expectJoin(t, s, "1:2", s+":1:2")
	}
	long := letters(100)
	expectJoin(t, long, "", long[:75]+"\r\n "+long[75:]+":")
	expectJoin(t, long, "ab", long[:75]+"\r\n "+long[75:]+":ab")
	expectJoin(t, long[:75], "", long[:75]+"\r\n :")
	expectJoin(t, long[:74], "", long[:74]+":")
	expectJoin(t, long[:74], "a", long[:74]+":\r\n a")
	expectJoin(t, "", long, ":"+long[:74]+"\r\n "+long[74:])
}

func TestJoinAtEachNumberOfLines(t *testing.T) {
	for n := range 21 {
		s := name(n) + ":" + letters(300)
		for size, want := range map[int]string{
			api.MaxLine - 1: s[:74],
			api.MaxLine:     s[:75],
			api.MaxLine + 1: s[:75] + "\r\n " + s[75:76],
			twoLines - 1:    s[:75] + "\r\n " + s[75:148],
			twoLines:        s[:75] + "\r\n " + s[75:149],
			twoLines + 1:    s[:75] + "\r\n " + s[75:149] + "\r\n " + s[149:150],
			threeLines - 1:  s[:75] + "\r\n " + s[75:149] + "\r\n " + s[149:222],
			threeLines:      s[:75] + "\r\n " + s[75:149] + "\r\n " + s[149:223],
			threeLines + 1:  s[:75] + "\r\n " + s[75:149] + "\r\n " + s[149:223] + "\r\n " + s[223:224],
		} {
			expectJoin(t, name(n), s[n+1:size], want)
		}
	}
}

func TestJoinIsAFold(t *testing.T) {
	for _, s := range append(beyond(), "", "A", "begin", "X-ROOMS", name(20), name(21), ":", " ", "\r\n", letters(75), letters(150)) {
		for n := range 330 {
			value := letters(n)
			expectJoin(t, s, value, fold.Fold(s+":"+value))
		}
		for _, value := range values() {
			expectJoin(t, s, value, fold.Fold(s+":"+value))
		}
	}
}

func TestJoinCountsBytes(t *testing.T) {
	expectJoin(t, "A", strings.Repeat("\u00e9", 36), "A:"+strings.Repeat("\u00e9", 36))
	expectJoin(t, "A", strings.Repeat("\u00e9", 37), "A:"+strings.Repeat("\u00e9", 36)+"\xc3\r\n \xa9")
	expectJoin(t, "AB", strings.Repeat("\u00e9", 37), "AB:"+strings.Repeat("\u00e9", 36)+"\r\n \u00e9")
	expectJoin(t, "A", letters(72)+"  b", "A:"+letters(72)+" \r\n  b")
	expectJoin(t, "A", letters(72)+"\r\nb", "A:"+letters(72)+"\r\r\n \nb")
}

// P9.2

func TestJoinedLinesAreSplit(t *testing.T) {
	for _, s := range []string{"A", "Z", "0", "-", "BEGIN", "X-ROOMS", name(19), name(20), "a", "begin", "Begin", "x-Rooms", strings.Repeat("z", 20)} {
		for n := range threeLines + 3 {
			expectBack(t, s, letters(n))
			expectBack(t, s, strings.Repeat(" ", n))
			expectBack(t, s, strings.Repeat(":", n))
		}
		for _, value := range values() {
			expectBack(t, s, value)
		}
	}
	expectBack(t, "x-rooms", letters(3_000_000))
}

func TestAnEndOfLineInAValue(t *testing.T) {
	// The fold takes this one apart, so that it ends no line; a shorter value's ends one.
	expectBack(t, "A", letters(72)+"\r\nb")
	if lines := fold.Unfold(line.Join("A", "a\r\nb")); len(lines) != 2 || lines[0] != "A:a" || lines[1] != "b" {
		t.Errorf("%q", lines)
	}
	// Of a line as it is, without the fold's unfolding, it is a part of the value.
	expectSplit(t, line.Join("A", "a\r\nb"), "A", "a\r\nb")
}

func TestJoinedNamesThatAreNoneAreNotSplit(t *testing.T) {
	for _, s := range append(beyond(), "", " ", " A", "A ", "A B", "A;B", "A_B", "\x00", name(21), strings.ToLower(name(21)), letters(300)) {
		for _, value := range []string{"", "b", ":", "B:c", letters(200)} {
			for _, l := range fold.Unfold(line.Join(s, value)) {
				expectNone(t, l)
			}
		}
	}
	// A colon in what isn't a name ends one before it.
	expectSplit(t, line.Join("A:B", "c"), "A", "B:c")
}

func TestSplitLinesAreJoined(t *testing.T) {
	rnd := rand.New(rand.NewSource(9))
	for range 3000 {
		name, value := someName(rnd), someValue(rnd)
		expectBack(t, name, value)
		l := strings.ToUpper(name) + ":" + value
		gotName, gotValue, err := line.Split(l)
		if text := line.Join(gotName, gotValue); text != fold.Fold(l) || err != api.OK {
			t.Errorf("%q, split and joined, becomes %q, %v", l, text, err)
		}
		if t.Failed() {
			return
		}
	}
}

func TestSeveralJoinedLinesAreSplit(t *testing.T) {
	rnd := rand.New(rand.NewSource(92))
	for range 1000 {
		var names, values []string
		var text strings.Builder
		for range rnd.Intn(6) {
			names, values = append(names, someName(rnd)), append(values, someValue(rnd))
			text.WriteString(line.Join(names[len(names)-1], values[len(values)-1]) + "\r\n")
		}
		lines := fold.Unfold(text.String())
		if len(lines) != len(names) {
			t.Fatalf("%q and %q are joined to the lines %q", names, values, lines)
		}
		for i, l := range lines {
			expectSplit(t, l, strings.ToUpper(names[i]), values[i])
		}
	}
}

// someName gives a name, perhaps with small letters.
func someName(rnd *rand.Rand) string {
	bytes := nameBytes + strings.ToLower(nameBytes)
	out := make([]byte, 1+rnd.Intn(20))
	for i := range out {
		out[i] = bytes[rnd.Intn(len(bytes))]
	}
	return string(out)
}

// someValue gives a value with no end of line in it.
func someValue(rnd *rand.Rand) string {
	signs := []string{"\r", "\n", " ", "  ", "\t", "a", "B", ":", ";", ",", `\`, "\u00e9", "\xff", "\x00", letters(20), letters(70)}
	var value strings.Builder
	for range rnd.Intn(2) * rnd.Intn(40) {
		value.WriteString(signs[rnd.Intn(len(signs))])
	}
	return strings.ReplaceAll(value.String(), "\r\n", "\r;")
}
