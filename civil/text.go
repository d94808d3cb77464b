package civil

import (
	"strconv"
	"strings"

	"hostelry/api"
)

const (
	formLength  = 15 // bytes of a text
	formMark    = 8  // where its T stands
	formSeconds = "00"
)

// Text gives the text of a minute, the empty one if there is no such minute.
func Text(m int) string {
	d, hour, minute, err := Clock(m)
	if err != api.OK {
		return ""
	}
	date := digits(d.Year, 4) + digits(d.Month, 2) + digits(d.Day, 2)
	return date + "T" + digits(hour, 2) + digits(minute, 2) + formSeconds
}

// Parse gives the minute that has this Text.
func Parse(s string) (int, api.Errno) {
	if !hasForm(s) {
		return 0, api.ErrForm
	}
	d := api.Date{Year: value(s[:4]), Month: value(s[4:6]), Day: value(s[6:8])}
	return Minute(d, value(s[9:11]), value(s[11:13]))
}

// digits writes a number that is not below 0 with zeros before it.
func digits(n, width int) string {
	s := strconv.Itoa(n)
	return strings.Repeat("0", max(0, width-len(s))) + s
}

func hasForm(s string) bool {
	if len(s) != formLength || s[formMark] != 'T' || !strings.HasSuffix(s, formSeconds) {
		return false
	}
	return areDigits(s[:formMark]) && areDigits(s[formMark+1:])
}

func areDigits(s string) bool {
	for i := range len(s) {
		if s[i] < '0' || s[i] > '9' {
			return false
		}
	}
	return true
}

// value reads digits.
func value(s string) int {
	n := 0
	for i := range len(s) {
		n = n*10 + int(s[i]-'0')
	}
	return n
}
