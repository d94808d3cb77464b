package spans

import (
	"hostelry/api"
	"hostelry/span"
)

// tree has valid spans, no two of which Touch, in their order.
type tree struct{ root *node }

// All gives the spans of the tree, ascending.
func (t *tree) All() []api.Span {
	return t.touching(api.Span{From: 0, To: api.MaxMinute})
}

// Long gives the number of the minutes of all spans.
func (t *tree) Long() int {
	return t.root.long()
}

// Deep gives the depth of the tree.
func (t *tree) Deep() int {
	return t.root.deep()
}

// touching gives the spans that Touch this one, ascending.
func (t *tree) touching(a api.Span) []api.Span {
	return t.root.appendTouching(nil, a)
}

// meeting gives a span that has at least one minute of this one, the zero span if none has.
func (t *tree) meeting(a api.Span) api.Span {
	n := t.root
	for n != nil {
		switch {
		case span.Is(span.Meet(n.span, a)):
			return n.span
		case a.From < n.span.From:
			n = n.left
		default:
			n = n.right
		}
	}
	return api.Span{}
}

// replace removes the spans that Touch a, which is valid, and puts others in
// their place: ascending ones that Touch neither each other nor what is left.
func (t *tree) replace(a api.Span, others []api.Span) {
	before := t.root.endingBefore(a.From)
	after := t.root.beginningAfter(a.To)
	for _, b := range others {
		before = join(before, b, nil)
	}
	t.root = concat(before, after)
}
