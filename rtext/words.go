package rtext

import (
	"slices"

	"hostelry/api"
)

// The names of the parts of a text.
const (
	freqName       = "FREQ"
	everyName      = "INTERVAL"
	countName      = "COUNT"
	untilName      = "UNTIL"
	byMonthName    = "BYMONTH"
	byMonthDayName = "BYMONTHDAY"
	byDayName      = "BYDAY"

	nameCount = 7
)

const (
	betweenParts    = ";"
	afterName       = "="
	betweenElements = ","
)

// part is a name with the text of its value, which is empty if there is nothing to tell.
type part struct{ name, value string }

// weekdayWords are those of Monday to Sunday.
func weekdayWords() []string {
	return []string{"MO", "TU", "WE", "TH", "FR", "SA", "SU"}
}

// freqWords are those of Daily to Yearly.
func freqWords() []string {
	return []string{"DAILY", "WEEKLY", "MONTHLY", "YEARLY"}
}

// freqText expects one of the four frequencies.
func freqText(freq int) string {
	return freqWords()[freq-api.Daily]
}

func freqOf(word string) (int, bool) {
	at := slices.Index(freqWords(), word)
	if at < 0 {
		return 0, false
	}
	return api.Daily + at, true
}
