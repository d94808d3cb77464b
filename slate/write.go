package slate

import (
	"strings"

	"hostelry/api"
)

// write appends the lines, each with its end, as far as the power lasts.
func (s *Slate) write(lines ...string) api.Errno {
	if s.power.off {
		return api.ErrPower
	}
	if anyEnd(lines...) {
		return api.ErrForm
	}
	for _, line := range lines {
		if !s.put(line, end) {
			return api.ErrPower
		}
	}
	return api.OK
}

// put appends the pieces as far as the power lasts, and reports whether that is
// to their end.
func (s *Slate) put(pieces ...string) bool {
	for _, piece := range pieces {
		n := s.power.use(len(piece))
		s.text = append(s.text, piece[:n]...)
		if n < len(piece) {
			return false
		}
	}
	return true
}

// anyEnd reports whether one of the lines has an end of its own.
func anyEnd(lines ...string) bool {
	for _, line := range lines {
		if strings.Contains(line, end) {
			return true
		}
	}
	return false
}
