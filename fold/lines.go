package fold

import (
	"strings"

	"hostelry/api"
)

const (
	endOfLine = "\r\n"
	blank     = " "
)

// piecesOf cuts a line where it is too long. Only the first piece has no blank
// before it, which takes room too.
func piecesOf(s string) []string {
	var pieces []string
	room := api.MaxLine
	for len(s) > room {
		pieces = append(pieces, s[:room])
		s = s[room:]
		room = api.MaxLine - len(blank)
	}
	return append(pieces, s)
}

// folded gives the text of a line that consists of these pieces.
func folded(pieces ...string) string {
	return strings.Join(pieces, endOfLine+blank)
}

// splitAtEnds gives the pieces of a text. What comes after the last end of
// line is one only if there is something.
func splitAtEnds(s string) []string {
	pieces := strings.Split(s, endOfLine)
	if last := len(pieces) - 1; pieces[last] == "" {
		return pieces[:last]
	}
	return pieces
}

// lines gives the lines that the pieces of a text make. The first piece begins
// a line even if there is a blank before it, since it has none to go on with.
func lines(pieces ...string) []string {
	var out []string
	for len(pieces) > 0 {
		n := 1
		for n < len(pieces) && strings.HasPrefix(pieces[n], blank) {
			n++
		}
		out = append(out, unfolded(pieces[0], pieces[1:n]...))
		pieces = pieces[n:]
	}
	return out
}

// unfolded gives the line of a piece and of those that go on with it, each of
// which has a blank before it.
func unfolded(first string, more ...string) string {
	var line strings.Builder
	line.WriteString(first)
	for _, piece := range more {
		line.WriteString(piece[len(blank):])
	}
	return line.String()
}
