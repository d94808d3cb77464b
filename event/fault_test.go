package event_test

import (
	"math/rand"
	"slices"
	"strconv"
	"strings"
	"testing"

	"hostelry/api"
	"hostelry/civil"
	"hostelry/event"
)

// P10.2: what Read does not accept, and which line it tells

func TestNoLines(t *testing.T) {
	expectFault(t, nil, 0)
	expectFault(t, []string{}, 0)
	expectFault(t, fullLines()[:0], 0)
}

func TestTheFirstLine(t *testing.T) {
	rest := hourLines()[1:]
	for _, first := range []string{
		"", ":", "BEGIN", "VEVENT", "BEGIN:", "BEGIN: VEVENT", "BEGIN:VEVENT ", "BEGIN :VEVENT", " BEGIN:VEVENT", "BEGIN:VCALENDAR", "BEGIN:VALARM", "BEGIN:VEVENTS", "BEGIN:VEVEN", "BEGIN;VEVENT", "BEGIN:VEVENT:",
		"BEGIN:\"VEVENT\"", "BEGIN:VEVENT\n", "BEGIN:VEVENT\r\n", "\ufeffBEGIN:VEVENT", "BEGIN:V\u0415VENT", "BEGIN:\uff36EVENT", "BEGIN:VEVEN\u0442", "BEGIN;X=1:VEVENT", "BEGINS:VEVENT",
		"END:VEVENT", "UID:a", "UID:?", "X:y", "VERSION:2.0", "SUMMARY:BEGIN:VEVENT", "no line",
	} {
		expectFault(t, []string{first}, 0)
		expectFault(t, append([]string{first}, rest...), 0)
		expectFault(t, append([]string{first}, hourLines()...), 0)
	}
	expectFault(t, rest, 0)
}

func TestEachBeginningOfTheLines(t *testing.T) {
	for _, e := range events() {
		l := event.Lines(e)
		for n := range l {
			expectFault(t, l[:n], n)
			if n > 0 { // nor does it end with lines that are ignored
				expectFault(t, joined(l[:n], []string{"X:y", "X:y"}), n+2)
			}
		}
	}
}

func TestEachLineMissing(t *testing.T) {
	for _, l := range [][]string{hourLines(), fullLines()} {
		for i := range l {
			without := slices.Delete(slices.Clone(l), i, i+1)
			last := len(without) - 1
			name, _, _ := strings.Cut(l[i], ":")
			switch name {
			case "BEGIN":
				expectFault(t, without, 0)
			case "END":
				expectFault(t, without, len(without))
			case "EXDATE", "SUMMARY":
				if got, n, err := event.Read(without); err != api.OK || n != len(without) {
					t.Errorf("Read(%q) = %+v, %d, %v", without, got, n, err)
				}
			default: // without the rule the exceptions make it no event
				expectFault(t, without, last)
				expectFault(t, joined(without, hourLines()), last)
				expectFault(t, joined([]string{without[0], "X:y"}, without[1:]), last+1)
			}
		}
	}
	expectFault(t, lines(), 1)
	expectFault(t, lines("X:y"), 2)
}

func TestEachLineTwice(t *testing.T) {
	for _, l := range [][]string{hourLines(), fullLines()} {
		for i := 1; i < len(l)-1; i++ {
			name, value, _ := strings.Cut(l[i], ":")
			for at := 1; at < len(l); at++ {
				second := max(i+1, at)
				if at <= i {
					second = i + 1
				}
				for _, again := range []string{l[i], strings.ToLower(name) + ":" + value} {
					expectFault(t, slices.Insert(slices.Clone(l), at, again), second)
				}
			}
			// The second one behind the first is told whatever its value, and if it would be good by itself.
			for _, value := range []string{"", "?", "a", "20000101T000000", "PT1M", "FREQ=DAILY", "0"} {
				for at := i + 1; at < len(l); at++ {
					expectFault(t, slices.Insert(slices.Clone(l), at, name+":"+value), at)
				}
			}
		}
	}
	expectFault(t, lines("SUMMARY:", "SUMMARY:"), 2)
	expectFault(t, lines("SUMMARY:", "SUMMARY:a"), 2)
	expectFault(t, lines("X-ROOMS:0", "X:y", "X-ROOMS:1"), 3)
	expectFault(t, lines("DTSTART:20000101T000000", "DTSTART:20000101T000000"), 2)
}

func TestLinesThatCanNotStandBetween(t *testing.T) {
	for _, l := range [][]string{hourLines(), fullLines()} {
		for at := 1; at < len(l); at++ {
			for _, between := range []string{
				"BEGIN:VEVENT", "begin:vevent", "BEGIN:VALARM", "Begin:", "BEGIN:VCALENDAR",
				"END:VALARM", "END:VCALENDAR", "end:", "END:VEVENTS", "END: VEVENT", "END:VEVENT ", "END:VEVENT:", "END:EVENT",
				"", " ", ":", ":a", "no line", "NO LINE:a", "END", "BEGIN", "UID", "UID;X=1:a", "X_Y:a", "ABCDEFGHIJKLMNOPQRSTU:a", "\u017fUMMARY:a", " UID:a",
			} {
				expectFault(t, slices.Insert(slices.Clone(l), at, between), at)
				expectFault(t, slices.Insert(slices.Clone(l), at, between, between), at)
				expectFault(t, slices.Insert(slices.Clone(l[:at]), at, between), at)
			}
			// An end that comes too early lacks what comes behind it.
			if at < 4 {
				expectFault(t, slices.Insert(slices.Clone(l), at, "END:VEVENT"), at)
			}
		}
	}
}

// faulty expects the line with this value not to be accepted, in an event that is good but for it.
func faulty(t *testing.T, name string, values ...string) {
	t.Helper()
	for _, value := range values {
		l := other(name, value)
		at := slices.Index(l, name+":"+value)
		expectFault(t, l, at)
		// Nor without an end, nor as the first one of them, nor in front of other faults.
		expectFault(t, l[:at+1], at)
		expectFault(t, lines(name+":"+value), 1)
		expectFault(t, []string{"BEGIN:VEVENT", name + ":" + value, "no line", "END:VEVENT", "BEGIN:?"}, 1)
		expectFault(t, []string{"BEGIN:VEVENT", "no line", name + ":" + value}, 1)
	}
}

func TestUIDsThatAreNotAccepted(t *testing.T) {
	faulty(t, "UID", "", " ", "a b", " a", "a ", "a:b", "a_b", "a,b", `a\,b`, "a.b", "a@b", "1234567890123", strings.Repeat("a", 1000), "\u00e9", "\u017f", "\xff", "a\n", "\x00")
	for b := range 256 {
		s := string([]byte{byte(b)})
		if !uidForm.MatchString(s) {
			faulty(t, "UID", s, "a"+s, s+"a")
		}
	}
}

func TestStartsThatAreNotAccepted(t *testing.T) {
	faulty(t, "DTSTART", noMinutes()...)
	faulty(t, "DTSTART", "20000101T000000,20000102T000000")
}

// noMinutes are texts of no minute.
func noMinutes() []string {
	return []string{
		"", " ", "0", "2000", "20000101", "20000101T0000", "20000101T00000", "20000101T0000000", "20000101T000000Z", "20000101t000000", "20000101 000000", "2000-01-01T00:00",
		"20000101T000001", "20000101T000010", "20000101T000060", "20000101T006000", "20000101T240000", "20000100T000000", "20000132T000000", "20000001T000000", "20001301T000000",
		"20010229T000000", "20000230T000000", "20000431T000000", "19991231T235900", "21000101T000000", "00000101T000000", "99991231T235900", " 20000101T000000", "20000101T000000 ",
		"+0000101T000000", "-0000101T000000", "2000010 T000000", "20000101T-10000", "\uff120000101T000000",
	}
}

func TestLengthsThatAreNotAccepted(t *testing.T) {
	faulty(t, "DURATION",
		"", "PT", "M", "PTM", "60", "60M", "PT60", "P60M", "T60M", "pt60M", "PT60m", "pt60m", "PT60S", "PT1H", "PT1H30M", "P1D", "P1DT60M", "-PT60M", "+PT60M", "PT-60M", "PT+60M",
		"PT0M", "PT-0M", "PT-1M", "PT00M", "PT060M", "PT01M", "PT10081M", "PT99999M", "PT9223372036854775807M", "PT9223372036854775808M", "PT18446744073709551617M", "PT"+strings.Repeat("9", 1000)+"M",
		"PT6 0M", "PT 60M", "PT60 M", " PT60M", "PT60M ", "PT60MM", "PTPT60M", "PT60M,PT60M", "PT6_0M", "PT0x6M", "PT1e1M", "PT6.0M", "PT\uff16M", "PT\u0666M", "PTaM",
	)
}

func TestRulesThatAreNotAccepted(t *testing.T) {
	faulty(t, "RRULE",
		"", " ", "FREQ=", "FREQ", "FREQ=daily", "FREQ=HOURLY", "INTERVAL=2", "FREQ=DAILY;", "FREQ=DAILY;COUNT=0", "FREQ=DAILY;COUNT=41", "FREQ=DAILY;COUNT=01", "FREQ=DAILY;INTERVAL=0",
		"FREQ=DAILY;COUNT=1;UNTIL=20000101T000000", "FREQ=WEEKLY;BYDAY=1MO", "FREQ=YEARLY;BYMONTHDAY=1", "FREQ=DAILY;BYMONTH=1,1", "FREQ=DAILY;FREQ=DAILY", "FREQ=DAILY ", "FREQ=DAILY;WKST=MO",
	)
}

func TestExceptionsThatAreNotAccepted(t *testing.T) {
	for _, text := range noMinutes() {
		faulty(t, "EXDATE", text, text+",20000101T000000", "20000101T000000,"+text, "20000101T000000,"+text+",20000102T000000")
	}
	faulty(t, "EXDATE",
		",", ",20000101T000000", "20000101T000000,", "20000101T000000,,20000102T000000", "20000101T000000, 20000102T000000", "20000101T000000;20000102T000000", "20000101T00000020000102T000000",
		"20000101T000000,20000101T000000", "20000102T000000,20000101T000000,20000102T000000", "20000101T000000,20000102T000000,20000102T000000",
	)
	var texts []string
	for _, m := range minutes(20) {
		texts = append(texts, civil.Text(m))
		value := strings.Join(texts, ",")
		back := slices.Clone(texts)
		slices.Reverse(back)
		if len(texts) > api.MaxList {
			faulty(t, "EXDATE", value, strings.Join(back, ","))
			continue
		}
		want := with(hour(), func(e *api.Event) { e.Rule, e.Except = daily(), minutes(len(texts)) })
		for _, value := range []string{value, strings.Join(back, ",")} {
			expectEvent(t, slices.Insert(hourLines(), 5, "EXDATE:"+value, "RRULE:FREQ=DAILY"), want, 8)
		}
	}
	faulty(t, "EXDATE", strings.Repeat("20000101T000000,", 100_000), strings.Repeat(",", 100_000))
}

func TestRoomsThatAreNotAccepted(t *testing.T) {
	faulty(t, "X-ROOMS",
		"", " ", ",", "-1", "8", "9", "10", "-0", "+0", "+3", "00", "03", "007", "3 ", " 3", "3, 4", "3 ,4", "3;4", "3.4", "34", "a", "x3", "3a", "0x3", "3-4", "3:4", "\uff13", "\u0663", "3\n",
		"3,", ",3", "3,,4", "3,4,", ",3,4", "3,3", "3,4,3", "4,3,4", "0,0,0,0", "3,8", "8,3", "-1,3", "3,-1", "3,a", "3,03", "3,+4",
		"0,1,2,3,4", "4,3,2,1,0", "0,1,2,3,", "0,1,2,3,3", "0,1,2,3,4,5", "0,1,2,3,4,5,6,7", "9223372036854775807", "9223372036854775808", "-9223372036854775808", "18446744073709551616", "4294967296", "4294967299",
		strings.Repeat("3,", 100_000), strings.Repeat("3", 100_000), strings.Repeat("0", 100_000)+"3",
	)
	for n := range 20 {
		text := strconv.Itoa(n)
		if n >= api.MaxRoom {
			faulty(t, "X-ROOMS", text, "3,"+text, text+",3")
		}
		faulty(t, "X-ROOMS", "0"+text, "-"+text, "+"+text, text+","+text)
	}
}

func TestTextsThatAreNotAccepted(t *testing.T) {
	faulty(t, "SUMMARY",
		",", ";", "\n", `\`, "a,b", "a;b", "a\nb", `a\`, `\x`, `\ `, `\:`, "\\\n", `\\\`, `a\\,b`, `a\\;b`, `\n\`,
		strings.Repeat("a", 41), strings.Repeat(`\n`, 41), strings.Repeat(`\,`, 41), strings.Repeat("a", 40)+" ", "a\r", "\t", "\x00", "\x1f", "\x7f", "\u00e9", "\xff", "a\\n\r", "\\n\t",
	)
	for b := range 256 {
		s := string([]byte{byte(b)})
		if b < 32 || b > 126 || strings.Contains(`\;,`, s) {
			faulty(t, "SUMMARY", s, "a"+s, s+" ")
		} else {
			expectEvent(t, other("SUMMARY", s), with(hour(), func(e *api.Event) { e.Text = s }), 7)
		}
	}
}

func TestWhatIsNotValidAsAWhole(t *testing.T) {
	l := other("EXDATE", "20000101T000000")
	expectFault(t, l, 6)
	expectFault(t, l[:6], 6)
	expectFault(t, joined(l, hourLines()), 6)
	expectFault(t, slices.Insert(slices.Clone(l), 6, "X:y"), 7)
	expectFault(t, slices.Insert(slices.Clone(l), 6, "no line"), 6)
	// With a rule it is, on either side.
	want := with(hour(), func(e *api.Event) { e.Rule, e.Except = daily(), []int{0} })
	for at := 1; at < 7; at++ {
		expectEvent(t, slices.Insert(slices.Clone(l), at, "RRULE:FREQ=DAILY"), want, 8)
	}
}

func TestTheFirstOfTwoFaultsIsTold(t *testing.T) {
	faults := []string{
		"no line", "BEGIN:VEVENT", "END:VALARM", "END:VEVENT", "UID:?", "DTSTART:2000", "DURATION:PT0M", "RRULE:FREQ=", "EXDATE:", "X-ROOMS:8", "SUMMARY:a,b",
	}
	for _, a := range faults {
		for _, b := range faults {
			expectFault(t, []string{"BEGIN:VEVENT", a, b}, 1)
			expectFault(t, []string{"BEGIN:VEVENT", "X:y", a, b, "END:VEVENT"}, 2)
			expectFault(t, []string{"BEGIN:VEVENT", a, "X:y", b, "END:VEVENT"}, 1)
			expectFault(t, []string{a + "?", b}, 0)
		}
		expectFault(t, []string{"BEGIN:VEVENT", "UID:a", a, "UID:a"}, 2)
		if !strings.HasPrefix(a, "UID") {
			expectFault(t, []string{"BEGIN:VEVENT", "UID:a", "UID:a", a}, 2)
		}
	}
}

// pool are lines of which those of an event can be, and others.
func pool() []string {
	return []string{"BEGIN:VEVENT", "UID:a", "dtstart:20000101T000000", "DURATION:PT5M", "RRULE:FREQ=DAILY", "EXDATE:20000102T000000", "X-ROOMS:2,1", "SUMMARY:", "x:y", "END:vevent"}
}

func expectByWords(t *testing.T, l []string) api.Errno {
	t.Helper()
	want, index, wantErr := readByWords(l)
	if got, n, err := event.Read(l); err != wantErr || n != index || !equal(got, want) {
		t.Fatalf("Read(%q) = %+v, %d, %v, want %+v, %d, %v", l, got, n, err, want, index, wantErr)
	}
	return wantErr
}

func TestReadOfAllSmallListsOfLines(t *testing.T) {
	var more func(l []string, n int)
	more = func(l []string, n int) {
		expectByWords(t, l)
		if n == 0 {
			return
		}
		for _, next := range pool() {
			more(append(slices.Clip(l), next), n-1)
		}
	}
	more(nil, 3)
	more([]string{"BEGIN:VEVENT"}, 3)
	more([]string{"begin:vevent", "UID:a", "DTSTART:20000101T000000", "DURATION:PT5M", "X-ROOMS:1"}, 4)
	more([]string{"begin:vevent", "UID:a", "EXDATE:20000101T000000", "DURATION:PT5M", "X-ROOMS:1"}, 4)
}

func TestReadByTheWordsOfTheChapter(t *testing.T) {
	rnd := rand.New(rand.NewSource(104))
	count := map[api.Errno]int{}
	for range 20000 {
		l := event.Lines(someEvent(rnd))
		between := l[1 : len(l)-1]
		rnd.Shuffle(len(between), func(i, j int) { between[i], between[j] = between[j], between[i] })
		for range rnd.Intn(3) {
			l = changed(rnd, l)
		}
		count[expectByWords(t, l)]++
	}
	if count[api.OK] < 3000 || count[api.ErrForm] < 3000 {
		t.Errorf("%v: too few of one kind", count)
	}
}

// changed gives the lines with a small change.
func changed(rnd *rand.Rand, l []string) []string {
	if len(l) == 0 {
		return l
	}
	at := rnd.Intn(len(l))
	switch rnd.Intn(8) {
	case 0:
		return slices.Delete(l, at, at+1)
	case 1:
		return slices.Insert(l, at, l[rnd.Intn(len(l))])
	case 2:
		return slices.Insert(l, at, pool()[rnd.Intn(len(pool()))])
	case 3:
		other := rnd.Intn(len(l))
		l[at], l[other] = l[other], l[at]
	case 4:
		l[at] = strings.ToLower(l[at])
	case 5:
		name, value, _ := strings.Cut(l[at], ":")
		l[at] = strings.ToLower(name) + ":" + value
	default:
		l[at] = changedText(rnd, l[at])
	}
	return l
}

// changedText gives the text with a sign more, less or another one.
func changedText(rnd *rand.Rand, s string) string {
	if s == "" {
		return s
	}
	at := rnd.Intn(len(s))
	sign := string("0123459,;:\\nNMPT-+ aA\n\xff"[rnd.Intn(22)])
	switch rnd.Intn(3) {
	case 0:
		return s[:at] + s[at+1:]
	case 1:
		return s[:at] + sign + s[at:]
	}
	return s[:at] + sign + s[at+1:]
}
