package span

import (
	"cmp"
	"slices"

	"hostelry/api"
)

// valid gives those of the spans that are valid, in their order, in new memory.
func valid(all ...api.Span) []api.Span {
	var out []api.Span
	for _, a := range all {
		if Is(a) {
			out = append(out, a)
		}
	}
	return out
}

// union gives the spans of the minutes of all the spans, ascending, no two of which Touch.
func union(all ...api.Span) []api.Span {
	sorted := valid(all...)
	slices.SortFunc(sorted, func(a, b api.Span) int { return cmp.Compare(a.From, b.From) })
	var out []api.Span
	for _, a := range sorted {
		last := len(out) - 1
		if last >= 0 && Touch(out[last], a) {
			// One that begins later may end earlier.
			out[last].To = max(out[last].To, a.To)
		} else {
			out = append(out, a)
		}
	}
	return out
}
