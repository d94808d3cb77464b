package event

import (
	"strings"
)

// The names of the lines of an event.
const (
	beginName  = "BEGIN"
	uidName    = "UID"
	startName  = "DTSTART"
	longName   = "DURATION"
	ruleName   = "RRULE"
	exceptName = "EXDATE"
	roomsName  = "X-ROOMS"
	textName   = "SUMMARY"
	endName    = "END"
)

const (
	eventWord       = "VEVENT"
	afterName       = ":"
	betweenElements = ","
	beforeLong      = "PT"
	afterLong       = "M"
)

// item is a name with its value, which is empty if there is nothing to tell.
type item struct{ name, value string }

// written gives the lines of the items that have something to tell. They are
// not folded, as those that line's Join gives are.
func written(items ...item) []string {
	var lines []string
	for _, i := range items {
		if i.value != "" {
			lines = append(lines, i.name+afterName+i.value)
		}
	}
	return lines
}

// list gives the value of a line with a list of numbers.
func list(text func(n int) string, numbers ...int) string {
	texts := make([]string, 0, len(numbers))
	for _, n := range numbers {
		texts = append(texts, text(n))
	}
	return strings.Join(texts, betweenElements)
}
