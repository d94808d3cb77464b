package claim

import (
	"hostelry/api"
	"hostelry/span"
)

// rooms are the spans of each room, ascending, no two of which touch.
type rooms [api.MaxRoom][]api.Span

// neat gives the spans of each room in the claims that are valid.
func neat(claims ...api.Claim) rooms {
	var out rooms
	for _, c := range claims {
		if Is(c) {
			out[c.Room] = append(out[c.Room], c.Span)
		}
	}
	for room, spans := range out {
		out[room] = span.All(spans)
	}
	return out
}

// claims gives each span of each room as a claim, ascending.
func (r rooms) claims() []api.Claim {
	var out []api.Claim
	for room, spans := range r {
		for _, s := range spans {
			out = append(out, api.Claim{Room: room, Span: s})
		}
	}
	return out
}

// long gives the number of the room minutes.
func (r rooms) long() int {
	sum := 0
	for _, spans := range r {
		for _, s := range spans {
			sum += span.Long(s)
		}
	}
	return sum
}

// inBoth gives the spans of each room that are in both.
func inBoth(a, b rooms) rooms {
	var out rooms
	for room := range out {
		out[room] = common(a[room], b[room])
	}
	return out
}

// notIn gives the spans of each room that are not in r.
func notIn(r rooms) rooms {
	var out rooms
	for room, spans := range r {
		out[room] = gaps(spans...)
	}
	return out
}

// common gives the spans of the minutes that are in both lists. Both are
// ascending, and what touches in none of them does not touch in what is common.
func common(a, b []api.Span) []api.Span {
	var out []api.Span
	for len(a) > 0 && len(b) > 0 {
		if both := span.Meet(a[0], b[0]); span.Is(both) {
			out = append(out, both)
		}
		// What ends first can't meet what comes behind the other.
		if a[0].To < b[0].To {
			a = a[1:]
		} else {
			b = b[1:]
		}
	}
	return out
}

// gaps gives the spans before, between and behind these, which are ascending.
// The first and the last one are empty if nothing is left there.
func gaps(spans ...api.Span) []api.Span {
	out := make([]api.Span, 0, len(spans)+1)
	from := 0
	for _, s := range spans {
		out = append(out, api.Span{From: from, To: s.From})
		from = s.To
	}
	return append(out, api.Span{From: from, To: api.MaxMinute})
}
