package rtext_test

import (
	"math"
	"slices"
	"strconv"
	"strings"
	"testing"

	"hostelry/api"
	"hostelry/rtext"
	"hostelry/rule"
)

// P7.2: the parts

func TestParseFreq(t *testing.T) {
	expectRule(t, "FREQ=DAILY", each(api.Daily))
	expectRule(t, "FREQ=WEEKLY", each(api.Weekly))
	expectRule(t, "FREQ=MONTHLY", each(api.Monthly))
	expectRule(t, "FREQ=YEARLY", each(api.Yearly))
	for _, word := range []string{
		"", "daily", "Daily", "DAIL", "DAILYY", "AILY", "DAILY ", " DAILY", "DAILY,WEEKLY", "DAILY=", "=DAILY",
		"HOURLY", "SECONDLY", "MINUTELY", "ONCE", "NONE", "1", "0", "-1", "Y", "\"DAILY\"", "DAILY\n", "DAILY\x00",
	} {
		expectNone(t, "FREQ="+word)
	}
}

func TestPartsInEachOrder(t *testing.T) {
	parts := []string{"FREQ=YEARLY", "INTERVAL=2", "COUNT=9", "BYMONTH=3,4", "BYMONTHDAY=-1,7", "BYDAY=TU,1SU"}
	want := on(at(in(times(every(each(api.Yearly), 2), 9), 3, 4), -1, 7), nth(0, 1), nth(1, 6))
	inEachOrder(parts, func(text string) { expectRule(t, text, want) })
	parts[2] = "UNTIL=20000102T103000"
	want = until(times(want, 0), 2070)
	inEachOrder(parts, func(text string) { expectRule(t, text, want) })
}

// inEachOrder calls do with the text of the parts in each order.
func inEachOrder(parts []string, do func(text string)) {
	var put func(n int)
	put = func(n int) {
		if n == len(parts) {
			do(strings.Join(parts, ";"))
		}
		for i := n; i < len(parts); i++ {
			parts[n], parts[i] = parts[i], parts[n]
			put(n + 1)
			parts[n], parts[i] = parts[i], parts[n]
		}
	}
	put(0)
}

func TestFreqMissing(t *testing.T) {
	for _, s := range []string{
		"", "INTERVAL=1", "INTERVAL=2", "COUNT=1", "UNTIL=20000101T000000", "BYMONTH=1", "BYMONTHDAY=1", "BYDAY=MO",
		"INTERVAL=2;COUNT=9;BYMONTH=3;BYMONTHDAY=7;BYDAY=TU",
		strings.TrimPrefix(fullText, "FREQ=YEARLY;"),
	} {
		expectNone(t, s)
	}
}

func TestAPartTwice(t *testing.T) {
	// Each pair has one name; either one alone makes a rule of the text ahead.
	for _, c := range []struct{ text, part, other string }{
		{"COUNT=3", "FREQ=DAILY", "FREQ=WEEKLY"},
		{"FREQ=DAILY", "INTERVAL=1", "INTERVAL=2"},
		{"FREQ=DAILY", "COUNT=1", "COUNT=2"},
		{"FREQ=DAILY", "UNTIL=20000101T000000", "UNTIL=20000101T000100"},
		{"FREQ=DAILY", "BYMONTH=1", "BYMONTH=2"},
		{"FREQ=MONTHLY", "BYMONTHDAY=1", "BYMONTHDAY=-1"},
		{"FREQ=MONTHLY", "BYDAY=MO", "BYDAY=1TU"},
	} {
		for _, alone := range []string{c.part, c.other} {
			if got, err := rtext.Parse(c.text + ";" + alone); err != api.OK {
				t.Errorf("%s;%s: %+v, %v", c.text, alone, got, err)
			}
		}
		name, _, _ := strings.Cut(c.part, "=")
		for _, again := range []string{c.part, c.other, name + "=", name} {
			inEachOrder([]string{c.text, c.part, again}, func(text string) { expectNone(t, text) })
			inEachOrder([]string{c.text, c.part, again, c.part}, func(text string) { expectNone(t, text) })
		}
	}
	for _, part := range strings.Split(fullText, ";") {
		expectNone(t, fullText+";"+part)
		expectNone(t, part+";"+fullText)
	}
	expectNone(t, strings.Repeat("FREQ=DAILY;", 1000)+"FREQ=DAILY")
}

func TestNamesThatThereAreNot(t *testing.T) {
	for _, part := range []string{
		"WKST=MO", "BYSETPOS=1", "BYHOUR=1", "BYYEARDAY=1", "BYWEEKNO=1", "X=1", "=", "=1", "=DAILY",
		"EVERY=1", "RRULE:FREQ=DAILY", "BYMONTHDA=1", "BYMONTHDAYS=1", "INTERVA=1", "COUNTS=1", "NTIL=20000101T000000",
		"interval=1", "Interval=1", "count=1", "until=20000101T000000", "bymonth=1", "bymonthday=1", "byday=MO",
		" INTERVAL=1", "INTERVAL =1", "INTERVAL= 1", "INTERVAL=1 ", "\tCOUNT=1", "COUNT=1\r\n", "COUNT=1\n",
		"BYDAY=MO, TU", "BYDAY=MO ,TU", "BYDAY= MO", "BYDAY=MO ", "BYMONTH=1, 2", "BYMONTH= 1", "UNTIL= 20000101T000000",
	} {
		expectNone(t, "FREQ=MONTHLY;"+part)
		expectNone(t, part+";FREQ=MONTHLY")
		expectNone(t, part)
	}
	for _, s := range []string{"freq=DAILY", "Freq=DAILY", "FREQ =DAILY", " FREQ=DAILY", "FREQ= DAILY", "freq=daily"} {
		expectNone(t, s)
	}
}

func TestSignsTooManyOrTooFew(t *testing.T) {
	for _, s := range []string{
		";", "=", ",", ";;", "==", "=;=", "FREQ", "DAILY", "FREQ=", "FREQDAILY", "FREQ:DAILY", "FREQ==DAILY", "FREQ=DAILY=",
		";FREQ=DAILY", "FREQ=DAILY;", ";FREQ=DAILY;", "FREQ=DAILY;;", ";;FREQ=DAILY",
		"FREQ=DAILY;;COUNT=1", "FREQ=DAILY;COUNT=1;", ";FREQ=DAILY;COUNT=1", "FREQ=DAILY; ;COUNT=1",
		"FREQ=DAILY;COUNT", "FREQ=DAILY;COUNT=", "FREQ=DAILY;COUNT==1", "FREQ=DAILY;COUNT=1=", "FREQ=DAILY;COUNT=1=1",
		"FREQ=DAILY;=COUNT=1", "FREQ=DAILY;COUNT1", "FREQ=DAILYCOUNT=1", "FREQ=DAILY,COUNT=1", "FREQ=DAILY&COUNT=1",
		"FREQ=DAILY;INTERVAL", "FREQ=DAILY;INTERVAL=", "FREQ=DAILY;UNTIL", "FREQ=DAILY;UNTIL=",
		"FREQ=DAILY;BYMONTH", "FREQ=DAILY;BYMONTHDAY", "FREQ=DAILY;BYDAY", "INTERVAL;FREQ=DAILY", "BYDAY;FREQ=DAILY",
		fullText + ";", ";" + fullText, strings.Replace(fullText, ";", ";;", 1), fullText + ";;", fullText + "\n", fullText + ";COUNT=1",
		strings.Repeat(";", 1000), strings.Repeat("=", 1000), strings.Repeat(",", 1000),
	} {
		expectNone(t, s)
	}
}

// P7.2: numbers

func TestParseEvery(t *testing.T) {
	expectRule(t, "FREQ=DAILY", every(each(api.Daily), 1))
	for n := 1; n <= 100; n++ {
		expectRule(t, "FREQ=DAILY;INTERVAL="+strconv.Itoa(n), every(each(api.Daily), n))
	}
	for _, n := range append(far(), -100, -2, -1, 0, 101, 102, 1000) {
		expectNone(t, "FREQ=DAILY;INTERVAL="+strconv.Itoa(n))
	}
}

func TestParseCount(t *testing.T) {
	for n := 1; n <= api.MaxOcc; n++ {
		expectRule(t, "FREQ=DAILY;COUNT="+strconv.Itoa(n), times(each(api.Daily), n))
	}
	for _, n := range append(far(), -40, -2, -1, 0, api.MaxOcc+1, api.MaxOcc+2, 1000) {
		expectNone(t, "FREQ=DAILY;COUNT="+strconv.Itoa(n))
	}
}

// illWritten are texts that are no number, made of the number 7.
func illWritten() []string {
	return []string{
		"", "07", "007", "+7", "-+7", "+-7", "--7", "-07", " 7", "7 ", "- 7", "7-", "7.", "7.0", "7e0", "0x7", "0b111", "0o7", "7_", "_7", "1_0",
		"-", "+", "--", "-0", "00", "-00", "+0", "seven", "7MO", "VII", "7;", "=7", "7=", "7\n", "7\x00", "\x007",
		"٧", "７", "7\u0660", "\u22127", "\xff", "7\xff", "\xb7", "\u00b2",
		strings.Repeat("0", 100) + "7", "-" + strings.Repeat("0", 100) + "7", "7" + strings.Repeat("0", 100), "-7" + strings.Repeat("0", 100),
		strings.Repeat("7", 100000),
		"9223372036854775808", "-9223372036854775809", "18446744073709551616", "18446744073709551623", "4294967303",
		"-18446744073709551609", "-4294967289", "340282366920938463463374607431768211463",
	}
}

func TestIllWrittenNumbers(t *testing.T) {
	for _, number := range illWritten() {
		for _, s := range []string{
			"FREQ=DAILY;INTERVAL=" + number,
			"INTERVAL=" + number + ";FREQ=DAILY",
			"FREQ=DAILY;COUNT=" + number,
			"FREQ=DAILY;BYMONTH=" + number,
			"FREQ=DAILY;BYMONTH=1," + number,
			"FREQ=DAILY;BYMONTH=" + number + ",1",
			"FREQ=DAILY;BYMONTHDAY=" + number,
			"FREQ=DAILY;BYMONTHDAY=-1," + number + ",2",
		} {
			expectNone(t, s)
		}
		if number != "" {
			expectNone(t, "FREQ=MONTHLY;BYDAY="+number+"MO")
			expectNone(t, "FREQ=MONTHLY;BYDAY=TU,"+number+"MO")
		}
	}
}

// P7.2: UNTIL

func TestParseUntil(t *testing.T) {
	for text, m := range map[string]int{
		"20000101T000000": 0, "20000101T000100": 1, "20000102T103000": 2070,
		"20991231T235900": lastMinute, "20240229T235900": 12709439,
	} {
		expectRule(t, "FREQ=DAILY;UNTIL="+text, until(each(api.Daily), m))
		expectRule(t, "UNTIL="+text+";FREQ=DAILY", until(each(api.Daily), m))
	}
	for _, text := range []string{
		"", "-1", "0", "2070", "20000101", "20000101T0000", "20000101T000000Z", "20000101t000000", "20000101T000001",
		"20000101T000030", "20000101T006000", "20000101T240000", "20230229T000000", "20000431T000000", "20001301T000000",
		"20000001T000000", "20000100T000000", "19991231T235900", "21000101T000000", "00000101T000000", "99991231T235900",
		" 20000101T000000", "20000101T000000 ", "2000-01-01T00:00:00", "-0000101T000000", "+2000101T000000",
		"20000101T000000,20000102T000000", "20000101T00000\u0660", "2000010\xffT000000",
	} {
		expectNone(t, "FREQ=DAILY;UNTIL="+text)
	}
}

func TestNotBothCountAndUntil(t *testing.T) {
	expectNone(t, "FREQ=DAILY;COUNT=1;UNTIL=20000101T000000")
	expectNone(t, "UNTIL=20991231T235900;FREQ=DAILY;COUNT=40")
}

// P7.2: lists

func TestParseEachElement(t *testing.T) {
	for month := -13; month <= 13; month++ {
		s := "FREQ=DAILY;BYMONTH=" + strconv.Itoa(month)
		if month >= 1 && month <= 12 {
			expectRule(t, s, in(each(api.Daily), month))
		} else {
			expectNone(t, s)
		}
	}
	for day := -33; day <= 33; day++ {
		s := "FREQ=MONTHLY;BYMONTHDAY=" + strconv.Itoa(day)
		if day != 0 && day >= -31 && day <= 31 {
			expectRule(t, s, at(each(api.Monthly), day))
		} else {
			expectNone(t, s)
		}
	}
	for day, word := range []string{"MO", "TU", "WE", "TH", "FR", "SA", "SU"} {
		expectRule(t, "FREQ=WEEKLY;BYDAY="+word, on(each(api.Weekly), nth(0, day)))
		for n := -7; n <= 7; n++ {
			s := "FREQ=MONTHLY;BYDAY=" + strconv.Itoa(n) + word
			if n != 0 && n >= -5 && n <= 5 {
				expectRule(t, s, on(each(api.Monthly), nth(n, day)))
			} else {
				expectNone(t, s)
			}
		}
	}
}

func TestElementsInEachOrder(t *testing.T) {
	lists := []struct {
		name string
		want api.Rule
		l    []string
	}{
		{"BYMONTH=", in(each(api.Monthly), 1, 2, 3, 10, 11, 12), []string{"1", "2", "3", "10", "11", "12"}},
		{"BYMONTHDAY=", at(each(api.Monthly), -31, -2, -1, 1, 9, 10), []string{"-31", "-2", "-1", "1", "9", "10"}},
		{"BYDAY=", on(each(api.Monthly), nth(-2, 6), nth(-1, 0), nth(0, 1), nth(0, 4), nth(1, 0), nth(1, 6)), []string{"-2SU", "-1MO", "TU", "FR", "1MO", "1SU"}},
	}
	for _, c := range lists {
		inEachOrder(c.l, func(text string) {
			expectRule(t, "FREQ=MONTHLY;"+c.name+strings.ReplaceAll(text, ";", ","), c.want)
		})
	}
	expectRule(t, "BYDAY=SU,SA,FR,TH,WE,TU,MO;FREQ=DAILY", on(each(api.Daily), nth(0, 0), nth(0, 1), nth(0, 2), nth(0, 3), nth(0, 4), nth(0, 5), nth(0, 6)))
}

func TestElementsTwice(t *testing.T) {
	for _, s := range []string{
		"BYMONTH=1,1", "BYMONTH=1,2,1", "BYMONTH=12,1,2,12", "BYMONTH=1,2,3,4,5,6,7,8,9,10,11,1",
		"BYMONTHDAY=1,1", "BYMONTHDAY=-1,1,-1", "BYMONTHDAY=31,-31,30,31",
		"BYDAY=MO,MO", "BYDAY=MO,1MO,MO", "BYDAY=-1FR,FR,1FR,-1FR", "BYDAY=1MO,1MO",
	} {
		expectNone(t, "FREQ=MONTHLY;"+s)
	}
	// These are not alike.
	expectRule(t, "FREQ=MONTHLY;BYMONTHDAY=1,-1", at(each(api.Monthly), -1, 1))
	expectRule(t, "FREQ=MONTHLY;BYDAY=1FR,FR,-1FR", on(each(api.Monthly), nth(-1, 4), nth(0, 4), nth(1, 4)))
}

func TestEmptyElements(t *testing.T) {
	for name, l := range map[string][2]string{"BYMONTH=": {"1", "2"}, "BYMONTHDAY=": {"-1", "2"}, "BYDAY=": {"-1MO", "TU"}} {
		a, b := l[0], l[1]
		for _, value := range []string{"", ",", ",,", "," + a, a + ",", a + ",," + b, "," + a + "," + b, a + "," + b + ",", a + "," + b + ",,", a + " " + b, a + ";" + b, a + "|" + b, a + ", " + b} {
			expectNone(t, "FREQ=MONTHLY;"+name+value)
			expectNone(t, name+value+";FREQ=MONTHLY")
		}
		if got, err := rtext.Parse("FREQ=MONTHLY;" + name + a + "," + b); err != api.OK || !rule.Is(got) {
			t.Errorf("%s%s,%s: %+v, %v", name, a, b, got, err)
		}
	}
}

func TestManyElements(t *testing.T) {
	expectRule(t, "FREQ=MONTHLY;BYMONTH="+numbered(1, 12), in(each(api.Monthly), 1, 2, 3, 4, 5, 6, 7, 8, 9, 10, 11, 12))
	expectNone(t, "FREQ=MONTHLY;BYMONTH="+numbered(1, 13))
	expectNone(t, "FREQ=MONTHLY;BYMONTH="+numbered(0, 12))
	expectNone(t, "FREQ=MONTHLY;BYMONTH="+numbered(1, 12)+",12")
	expectRule(t, "FREQ=MONTHLY;BYMONTHDAY="+numbered(20, 31), at(each(api.Monthly), 20, 21, 22, 23, 24, 25, 26, 27, 28, 29, 30, 31))
	expectRule(t, "FREQ=MONTHLY;BYMONTHDAY="+numbered(-31, -20), at(each(api.Monthly), -31, -30, -29, -28, -27, -26, -25, -24, -23, -22, -21, -20))
	for _, last := range []int{13, 14, 15, 26, 31} {
		expectNone(t, "FREQ=MONTHLY;BYMONTHDAY="+numbered(1, last))
		expectNone(t, "FREQ=MONTHLY;BYMONTHDAY="+numbered(-31, -32+last))
	}
	days := "MO,TU,WE,TH,FR,SA,SU,1MO,1TU,1WE,1TH"
	if got, err := rtext.Parse("FREQ=MONTHLY;BYDAY=" + days + ",1FR"); err != api.OK || len(got.ByDay) != api.MaxList {
		t.Errorf("twelve weekdays: %+v, %v", got, err)
	}
	expectNone(t, "FREQ=MONTHLY;BYDAY="+days+",1FR,1SA")
	expectNone(t, "FREQ=MONTHLY;BYDAY="+days+",1FR,1SA,1SU")
	expectNone(t, "FREQ=MONTHLY;BYMONTHDAY=1"+strings.Repeat(",1", 100000))
}

func TestWeekdaysIllWritten(t *testing.T) {
	for _, day := range []string{
		"", "M", "O", "mo", "Mo", "mO", "MOO", "MMO", "MON", "MONDAY", "XX", "TUE", "0", "1", "-1", "1M", "MO1", "MO-1", "MOTU", "OT",
		"0MO", "-0MO", "+1MO", "01MO", "-01MO", "00MO", "-MO", "+MO", "--1MO", "1 MO", "1-MO", "1,MO,", "1:MO", "1MO1", "1MO2TU",
		"6MO", "-6MO", "10MO", "53MO", "1.0MO", "0x1MO", "9223372036854775807MO", "-9223372036854775808MO", "9223372036854775808MO",
		"18446744073709551617MO", "1\u004d\u039f", "\u0661MO", "MO\u0301", "ＭＯ", "\xffMO", "MO\xff",
	} {
		expectNone(t, "FREQ=MONTHLY;BYDAY="+day)
		expectNone(t, "FREQ=MONTHLY;BYDAY=TH,"+day)
		expectNone(t, "FREQ=MONTHLY;BYDAY="+day+",TH")
	}
}

// P7.2: what is not a rule

func TestRightPartsThatAreNoRule(t *testing.T) {
	for _, s := range []string{
		"FREQ=WEEKLY;BYMONTHDAY=1", "FREQ=WEEKLY;BYMONTH=1;BYMONTHDAY=-1",
		"FREQ=WEEKLY;BYDAY=1MO", "FREQ=DAILY;BYDAY=-1MO", "FREQ=DAILY;BYDAY=MO,1MO",
		"FREQ=YEARLY;BYDAY=MO", "FREQ=YEARLY;BYMONTHDAY=1", "FREQ=YEARLY;BYMONTHDAY=1;BYDAY=MO",
		"FREQ=DAILY;INTERVAL=101", "FREQ=DAILY;COUNT=41", "FREQ=DAILY;COUNT=1;UNTIL=20000101T000000",
		"FREQ=DAILY;BYMONTH=13", "FREQ=DAILY;BYMONTH=0", "FREQ=DAILY;BYMONTH=-1",
		"FREQ=DAILY;BYMONTHDAY=0", "FREQ=DAILY;BYMONTHDAY=32", "FREQ=DAILY;BYMONTHDAY=-32",
		"FREQ=MONTHLY;BYDAY=6MO", "FREQ=MONTHLY;BYDAY=-6MO",
	} {
		expectNone(t, s)
	}
	expectRule(t, "FREQ=YEARLY;BYDAY=MO;BYMONTH=5", on(in(each(api.Yearly), 5), nth(0, 0)))
	expectRule(t, "BYMONTHDAY=1;BYMONTH=5;FREQ=YEARLY", at(in(each(api.Yearly), 5), 1))
	expectRule(t, "FREQ=YEARLY;BYMONTH=5", in(each(api.Yearly), 5))
	expectRule(t, "FREQ=WEEKLY;BYMONTH=5", in(each(api.Weekly), 5))
	expectRule(t, "FREQ=DAILY;BYMONTHDAY=-1", at(each(api.Daily), -1))
}

func TestBytesBeyondASCII(t *testing.T) {
	for _, s := range []string{
		"\xff", "\x00", "\u00e9", "\ufeffFREQ=DAILY", "FREQ=DAILY\ufeff", "FREQ=DAILY\u00a0", "\u00a0FREQ=DAILY",
		"FR\u0415Q=DAILY", "FREQ\uff1dDAILY", "FREQ=DAILY\uff1bCOUNT=1", "FREQ=DAILY\u037eCOUNT=1", "FREQ=DA\u0130LY", "FREQ=DA\u0131LY",
		"FREQ=DAILY;COUNT=1\xff", "FREQ=DAILY;BYMONTH=1\uff0c2", "FREQ=DAILY;\xffCOUNT=1", "FREQ=WEE\u212aLY",
	} {
		expectNone(t, s)
	}
}

// P7.3

func TestParseOfWhatIsPrinted(t *testing.T) {
	rules := []api.Rule{full()}
	for _, freq := range freqs() {
		r := each(freq)
		rules = append(rules, r, every(r, 2), every(r, 100), times(r, 1), times(r, api.MaxOcc), until(r, 0), until(r, lastMinute), in(r, 1), in(r, 1, 12))
		rules = append(rules, on(in(r, 6), nth(0, 3)), on(in(r, 6), nth(0, 0), nth(0, 6)))
		if freq != api.Weekly {
			rules = append(rules, at(in(r, 6), -31, -1, 1, 31))
		}
		if freq == api.Monthly || freq == api.Yearly {
			rules = append(rules, on(in(r, 6), nth(-5, 6), nth(-1, 0), nth(0, 3), nth(5, 0)))
		}
	}
	for _, r := range rules {
		if !rule.Is(r) {
			t.Fatalf("%+v is no rule", r)
		}
		expectRule(t, rtext.Print(r), r)
	}
	for _, r := range []api.Rule{rule.Once(), {}, each(5), in(each(api.Daily), 13)} {
		expectNone(t, rtext.Print(r))
	}
}

func TestEachTextOfARuleIsPrintedOneWay(t *testing.T) {
	for s, want := range map[string]string{
		"BYDAY=WE,MO;FREQ=WEEKLY":                  "FREQ=WEEKLY;BYDAY=MO,WE",
		"INTERVAL=1;FREQ=DAILY":                    "FREQ=DAILY",
		"COUNT=3;INTERVAL=2;FREQ=DAILY":            "FREQ=DAILY;INTERVAL=2;COUNT=3",
		"BYMONTHDAY=1,-1;FREQ=YEARLY;BYMONTH=12,1": "FREQ=YEARLY;BYMONTH=1,12;BYMONTHDAY=-1,1",
	} {
		r, err := rtext.Parse(s)
		if got := rtext.Print(r); err != api.OK || got != want {
			t.Errorf("%q is read as %+v, %v, and printed as %q, want %q", s, r, err, got, want)
		}
	}
}

// The rules of DOC.md.

func TestResultsAreNewMemory(t *testing.T) {
	for range 3 {
		a, _ := rtext.Parse(fullText)
		b, _ := rtext.Parse(fullText)
		expectLists(t, a, full())
		for i := range a.ByDay[:cap(a.ByDay)] {
			a.ByDay[:cap(a.ByDay)][i] = nth(7, 7)
		}
		expectLists(t, on(a, full().ByDay...), full())
		spoil(a.ByMonth)
		expectLists(t, in(on(a, full().ByDay...), full().ByMonth...), full())
		spoil(a.ByMonthDay)
		expectLists(t, b, full())
		expectRule(t, fullText, full())
		expectPrint(t, b, fullText)
	}
}

// spoil overwrites a list and the memory behind it.
func spoil(l []int) {
	for i := range l[:cap(l)] {
		l[:cap(l)][i] = math.MinInt
	}
}

func expectLists(t *testing.T, got, want api.Rule) {
	t.Helper()
	if !slices.Equal(got.ByDay, want.ByDay) || !slices.Equal(got.ByMonthDay, want.ByMonthDay) || !slices.Equal(got.ByMonth, want.ByMonth) {
		t.Errorf("the lists of %+v are not those of %+v", got, want)
	}
}
