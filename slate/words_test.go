package slate_test

import (
	"math"
	"math/rand"
	"slices"
	"strings"
	"testing"

	"hostelry/api"
	"hostelry/slate"
)

// paper is a slate by the words of the chapter: it goes byte by byte.
type paper struct {
	text    string
	off     bool
	limited bool
	left    int
}

func (p *paper) write(l []string) api.Errno {
	if p.off {
		return api.ErrPower
	}
	for _, line := range l {
		for i := range len(line) {
			if line[i] == 10 {
				return api.ErrForm
			}
		}
	}
	for _, line := range l {
		for _, b := range []byte(line + "\n") {
			if p.limited && p.left == 0 {
				p.off = true
				return api.ErrPower
			}
			p.left--
			p.text += string([]byte{b})
		}
	}
	return api.OK
}

// act is one thing that is done, to a slate and on paper.
type act struct {
	name  string
	slate func(s *slate.Slate) api.Errno
	paper func(p *paper) api.Errno
}

func write(l ...string) act {
	return act{
		"Write " + strings.Join(l, "|"),
		func(s *slate.Slate) api.Errno { return s.Write(l) },
		func(p *paper) api.Errno { return p.write(l) },
	}
}

func limit(n int) act {
	return act{
		"Limit",
		func(s *slate.Slate) api.Errno { s.Limit(n); return api.OK },
		func(p *paper) api.Errno { p.limited, p.left = true, max(n, 0); return api.OK },
	}
}

func rise() act {
	return act{
		"Rise",
		func(s *slate.Slate) api.Errno { s.Rise(); return api.OK },
		func(p *paper) api.Errno { *p = paper{text: wholeOf(p.text)}; return api.OK },
	}
}

// step does one thing, and fails unless the slate tells what the paper does.
func step(t *testing.T, s *slate.Slate, p *paper, a act) {
	t.Helper()
	was := *p
	if got, want := a.slate(s), a.paper(p); got != want {
		t.Errorf("%q of %+v = %v, want %v", a.name, was, got, want)
	}
	expect(t, s, p.text, !p.off)
}

// P16.1 and P16.2: all short rows of acts, each row from its beginning on

func TestAllShortRowsOfActs(t *testing.T) {
	acts := []act{
		write(), write(""), write("a"), write("ab", ""), write("a\n"), write("a", "\n"),
		limit(-1), limit(0), limit(1), limit(2), limit(4), rise(),
	}
	for _, text := range list("", "a\n", "\nt") {
		rows := [][]act{nil}
		for range 4 {
			var longer [][]act
			for _, row := range rows {
				for _, a := range acts {
					longer = append(longer, append(slices.Clone(row), a))
				}
			}
			rows = longer
		}
		for _, row := range rows { // the shorter rows are how these begin
			s, p := slate.Of(text), &paper{text: text}
			for _, a := range row {
				step(t, s, p, a)
			}
			if t.Failed() {
				return
			}
		}
	}
}

// someAct picks any act.
func someAct(rnd *rand.Rand) act {
	switch rnd.Intn(8) {
	case 0:
		return rise()
	case 1:
		return limit([]int{math.MinInt, -1, 0, 1, 2, 3, rnd.Intn(20), rnd.Intn(200), math.MaxInt}[rnd.Intn(9)])
	}
	l := make([]string, rnd.Intn(5))
	for i := range l {
		b := make([]byte, []int{0, 1, rnd.Intn(10), rnd.Intn(60)}[rnd.Intn(4)])
		rnd.Read(b)
		l[i] = string(b)
		if rnd.Intn(30) > 0 {
			l[i] = strings.ReplaceAll(l[i], "\n", "")
		}
	}
	return write(l...)
}

// Long rows of any acts, with copies that go on by themselves.
func TestManyActs(t *testing.T) {
	rnd := rand.New(rand.NewSource(16))
	for range 300 {
		b := make([]byte, rnd.Intn(50))
		rnd.Read(b)
		slates, papers := []*slate.Slate{slate.Of(string(b))}, []*paper{{text: string(b)}}
		for range 60 {
			i := rnd.Intn(len(slates))
			if rnd.Intn(10) == 0 {
				p := *papers[i]
				slates, papers = append(slates, slates[i].Copy()), append(papers, &p)
			}
			step(t, slates[i], papers[i], someAct(rnd))
		}
		for i, s := range slates {
			expect(t, s, papers[i].text, !papers[i].off)
		}
		if t.Failed() {
			return
		}
	}
}

// The rules of DOC.md.

// spoil writes into all memory of a list, behind its end too.
func spoil(l []string) {
	l = l[:cap(l)]
	for i := range l {
		l[i] = "spoilt\n"
	}
}

func TestLinesAreTheCallersOwn(t *testing.T) {
	for _, was := range append(before(), "a\nb\nc\n", "a\nb\nc\ntorn", strings.Repeat("many\n", 1000)) {
		for _, s := range []*slate.Slate{slate.Of(was), off(t, was)} {
			on := s.On()
			first, second := s.Lines(), s.Lines()
			want, spare := slices.Clone(second), slices.Clone(second[:cap(second)])
			spoil(first)
			if !slices.Equal(second, want) || !slices.Equal(second[:cap(second)], spare) {
				t.Errorf("two answers of Lines of %.200q share memory", was)
			}
			expect(t, s, was, on)
			other := s.Copy()
			spoil(other.Lines())
			expect(t, s, was, on)
			s.Rise()
			s.Write(list("more", "and more"))
			if !slices.Equal(second, want) {
				t.Errorf("Lines of %.200q changed with the slate", was)
			}
			spoil(second)
			expect(t, s, wholeOf(was)+text("more", "and more"), true)
		}
	}
}

func TestTextStaysWhatItWas(t *testing.T) {
	for _, was := range before() {
		s := slate.Of(was)
		kept, lines := s.Text(), s.Lines()
		s.Rise()
		expectWrite(t, s, list(strings.Repeat("!", 500)), api.OK)
		s.Limit(2)
		expectWrite(t, s, list("???"), api.ErrPower)
		s.Rise()
		if kept != was || !slices.Equal(lines, linesOf(was)) {
			t.Errorf("what %.200q told changed with the slate: %.200q, %.200q", was, kept, lines)
		}
	}
}

func TestArgumentsStayAsTheyWere(t *testing.T) {
	for _, l := range append(append(some(), broken()...), list("a", "b", "c")) {
		given := append(slices.Clone(l), "behind", "", "more\n")
		was := slices.Clone(given)
		short := slate.New()
		short.Limit(3)
		for _, s := range []*slate.Slate{slate.New(), slate.Of("torn"), short, off(t, "a\n")} {
			s.Write(given[:len(l)])
			s.Write(given[:len(l)])
			s.Rise()
			spoil(s.Lines())
			if !slices.Equal(given, was) {
				t.Fatalf("Write changed %.200q to %.200q", was, given)
			}
		}
	}
}

func TestArgumentsAreNotKept(t *testing.T) {
	for _, l := range some() {
		s, given := slate.New(), slices.Clone(l)
		expectWrite(t, s, given, api.OK)
		spoil(given)
		expect(t, s, text(l...), true)
		expectWrite(t, s, list("z"), api.OK)
		expect(t, s, text(l...)+"z\n", true)
	}
	s := slate.Of("a\nb\n")
	expectWrite(t, s, s.Lines(), api.OK) // what it told itself
	expect(t, s, "a\nb\na\nb\n", true)
}

func TestSlatesTellNothingOfEachOther(t *testing.T) {
	a, b := slate.New(), slate.New()
	a.Limit(2)
	expectWrite(t, a, list("abc"), api.ErrPower)
	expect(t, a, "ab", false)
	expect(t, b, "", true)
	expectEndless(t, b)
	expect(t, a, "ab", false)
	a.Rise()
	expect(t, a, "", true)
}
