package slate_test

import (
	"strconv"
	"strings"
	"testing"

	"hostelry/api"
	"hostelry/slate"
)

// before are what slates have ahead of a Write: whole lines and torn ends.
func before() []string {
	return list("", "\n", "a\n", "a\n\nbc\n", "torn", "a\ntorn", "\n\ntorn", everyByte())
}

// P16.2: Write with power and without a limit

func TestWrite(t *testing.T) {
	long := strings.Repeat("a long one ", 20000)
	for _, c := range []struct {
		l    []string
		want string
	}{
		{nil, ""},
		{list(), ""},
		{list(""), "\n"},
		{list("", "", ""), "\n\n\n"},
		{list("a"), "a\n"},
		{list("a", "bc"), "a\nbc\n"},
		{list("", "a", "", "bc", ""), "\na\n\nbc\n\n"},
		{list("b", "a", "b", "b"), "b\na\nb\nb\n"},
		{list(" a "), " a \n"},
		{list("\x00", "\r", "\xff"), "\x00\n\r\n\xff\n"},
		{list(otherBytes()), otherBytes() + "\n"},
		{list("\u2028\u0085\v\f", "\u010a"), "\u2028\u0085\v\f\n\u010a\n"},
		{list(`\n`, "0x0a"), "\\n\n0x0a\n"},
		{list(long), long + "\n"},
		{list(long, "", long), long + "\n\n" + long + "\n"},
	} {
		for _, was := range before() {
			s := slate.Of(was)
			expectWrite(t, s, c.l, api.OK)
			expect(t, s, was+c.want, true)
			expectWrite(t, s, c.l, api.OK)
			expect(t, s, was+c.want+c.want, true)
			expectWrite(t, s, list("z"), api.OK)
			expect(t, s, was+c.want+c.want+"z\n", true)
		}
	}
}

func TestTornEndAndFirstLineBecomeOne(t *testing.T) {
	s := slate.Of("a\ntorn")
	expectWrite(t, s, list("first", "next"), api.OK)
	expect(t, s, "a\ntornfirst\nnext\n", true)
	s = slate.Of("torn")
	expectWrite(t, s, list(""), api.OK)
	expect(t, s, "torn\n", true)
	s = slate.Of("torn")
	expectWrite(t, s, nil, api.OK)
	expect(t, s, "torn", true)
}

func TestManyWrites(t *testing.T) {
	s := slate.New()
	var want []string
	for i := range 300000 {
		want = append(want, "line "+strconv.Itoa(i))
		if err := s.Write(want[i:]); err != api.OK {
			t.Fatalf("Write %d = %v", i, err)
		}
	}
	expect(t, s, strings.Join(want, "\n")+"\n", true)
	other := slate.New()
	expectWrite(t, other, want, api.OK)
	expect(t, other, s.Text(), true)
}

// P16.2: ErrForm

// broken are lists that have an end of a line within an element.
func broken() [][]string {
	long := strings.Repeat("x", 100000)
	return [][]string{
		list("\n"), list("\n\n"), list("\r\n"), list("\na"), list("a\nb"), list("a\n"), list("a\n\nb\n"), list("\xff\n\x00"),
		list(everyByte()), list(long + "\n"), list("\n" + long),
		list("\n", "a", "b"), list("a\n", "b"), list("a", "\n", "b"), list("a", "b\nc", "d"), list("a", "b", "c\n"), list("a", "b", "\nc"),
		list("", "", "\n"), list("\n", "\n"), list(long, long, "a\n"),
	}
}

func TestWriteOfABrokenLine(t *testing.T) {
	for _, l := range broken() {
		for _, was := range before() {
			s := slate.Of(was)
			expectWrite(t, s, l, api.ErrForm)
			expect(t, s, was, true)
			expectWrite(t, s, l, api.ErrForm)
			expectEndless(t, s)
		}
	}
}

func TestWriteOfABrokenLineLeavesTheLimit(t *testing.T) {
	for _, l := range broken() {
		for limit := range 5 { // some of them less than the list wants
			s := slate.Of("torn")
			s.Limit(limit)
			expectWrite(t, s, l, api.ErrForm)
			expect(t, s, "torn", true)
			expectWrite(t, s, l, api.ErrForm)
			expectLimit(t, s, limit)
		}
		s := slate.New()
		s.Limit(5)
		expectWrite(t, s, list("a"), api.OK)
		expectWrite(t, s, l, api.ErrForm)
		expect(t, s, "a\n", true)
		expectWrite(t, s, list("bc"), api.OK)
		expectWrite(t, s, l, api.ErrForm)
		expect(t, s, "a\nbc\n", true)
		expectLimit(t, s, 0)
	}
}

// P16.2: ErrPower with the power off, and ahead of ErrForm

func TestWriteWithoutPower(t *testing.T) {
	lists := append(broken(), nil, list(), list(""), list("", ""), list("a"), list("a", "bc"), list(strings.Repeat("x", 100000)))
	for _, was := range before() {
		s := off(t, was)
		for range 2 {
			for _, l := range lists {
				expectWrite(t, s, l, api.ErrPower)
				expect(t, s, was, false)
			}
		}
		s.Rise()
		expect(t, s, wholeOf(was), true)
		expectWrite(t, s, list("a"), api.OK)
		expect(t, s, wholeOf(was)+"a\n", true)
	}
}
