package claim

import (
	"hostelry/api"
	"hostelry/span"
)

// overlap reports whether two of the spans do, which are ascending and all of
// one length: so if any do, two neighbours do.
func overlap(times ...api.Span) bool {
	for i := 1; i < len(times); i++ {
		if span.Is(span.Meet(times[i-1], times[i])) {
			return true
		}
	}
	return false
}

// each gives the claims to each of the rooms at each of the times.
func each(inRooms []int, times ...api.Span) []api.Claim {
	var out []api.Claim
	for _, room := range inRooms {
		for _, t := range times {
			out = append(out, api.Claim{Room: room, Span: t})
		}
	}
	return out
}
