package cal

import (
	"strings"

	"hostelry/api"
	"hostelry/event"
	"hostelry/fold"
	"hostelry/line"
)

// The names of the lines that are a calendar's own, and their values.
const (
	beginName   = "BEGIN"
	versionName = "VERSION"
	endName     = "END"

	calendarWord = "VCALENDAR"
	version      = "2.0"
)

const endOfLine = "\r\n"

// printed gives the text of a calendar, and whether it has room. It goes no
// further than there is room, since there may be any number of events.
func printed(events ...api.Event) (string, bool) {
	var text strings.Builder
	text.WriteString(written(line.Join(beginName, calendarWord), line.Join(versionName, version)))
	for _, e := range events {
		text.WriteString(written(event.Lines(e)...))
		if text.Len() > api.MaxBytes {
			return "", false
		}
	}
	text.WriteString(written(line.Join(endName, calendarWord)))
	return text.String(), text.Len() <= api.MaxBytes
}

// written gives the text of these lines, each folded and ended.
func written(lines ...string) string {
	var text strings.Builder
	for _, l := range lines {
		text.WriteString(fold.Fold(l))
		text.WriteString(endOfLine)
	}
	return text.String()
}
