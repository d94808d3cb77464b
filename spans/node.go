package spans

import (
	"hostelry/api"
	"hostelry/span"
)

// node is a tree of spans: the lesser ones to the left, the greater ones to
// the right. The depths of the two sides differ by at most one. A node is never
// changed after it was made, so that copies of a set can share it.
type node struct {
	span        api.Span
	left, right *node
	depth       int
}

// newNode expects two sides whose depths differ by at most one.
func newNode(left *node, a api.Span, right *node) *node {
	return &node{a, left, right, 1 + max(left.deep(), right.deep())}
}

// grow gives the tree of ascending spans.
func grow(l []api.Span) *node {
	if len(l) == 0 {
		return nil
	}
	half := len(l) / 2
	return newNode(grow(l[:half]), l[half], grow(l[half+1:]))
}

func (n *node) deep() int {
	if n == nil {
		return 0
	}
	return n.depth
}

func (n *node) long() int {
	if n == nil {
		return 0
	}
	return n.left.long() + span.Long(n.span) + n.right.long()
}

// first expects a node.
func (n *node) first() api.Span {
	for n.left != nil {
		n = n.left
	}
	return n.span
}

// appendTouching looks only to the sides on which a sticks out of the span of the node.
func (n *node) appendTouching(l []api.Span, a api.Span) []api.Span {
	if n == nil {
		return l
	}
	if a.From < n.span.From {
		l = n.left.appendTouching(l, a)
	}
	if span.Touch(n.span, a) {
		l = append(l, n.span)
	}
	if a.To > n.span.To {
		l = n.right.appendTouching(l, a)
	}
	return l
}

// endingBefore gives the tree of the spans whose To is less than m.
func (n *node) endingBefore(m int) *node {
	if n == nil {
		return nil
	}
	if n.span.To < m {
		return join(n.left, n.span, n.right.endingBefore(m))
	}
	return n.left.endingBefore(m)
}

// beginningAfter gives the tree of the spans whose From is greater than m.
func (n *node) beginningAfter(m int) *node {
	if n == nil {
		return nil
	}
	if n.span.From > m {
		return join(n.left.beginningAfter(m), n.span, n.right)
	}
	return n.right.beginningAfter(m)
}

// concat gives the tree of the spans of both, those of left being the lesser ones.
func concat(left, right *node) *node {
	if right == nil {
		return left
	}
	first := right.first()
	return join(left, first, right.beginningAfter(first.From))
}

// join gives the tree of a span and of two sides of any depths. It goes down
// the deeper one to where the other one fits in, so the tree gets deeper than
// both by at most one.
func join(left *node, a api.Span, right *node) *node {
	switch {
	case left.deep() > right.deep()+1:
		return balance(left.left, left.span, join(left.right, a, right))
	case right.deep() > left.deep()+1:
		return balance(join(left, a, right.left), right.span, right.right)
	}
	return newNode(left, a, right)
}

// balance gives the tree of a span and of two sides whose depths differ by at most two.
func balance(left *node, a api.Span, right *node) *node {
	switch {
	case left.deep() > right.deep()+1:
		return leanRight(left, a, right)
	case right.deep() > left.deep()+1:
		return leanLeft(left, a, right)
	}
	return newNode(left, a, right)
}

// leanRight moves what is too much on the left to the right.
func leanRight(left *node, a api.Span, right *node) *node {
	middle := left.right
	if left.left.deep() >= middle.deep() {
		return newNode(left.left, left.span, newNode(middle, a, right))
	}
	lesser := newNode(left.left, left.span, middle.left)
	return newNode(lesser, middle.span, newNode(middle.right, a, right))
}

// leanLeft moves what is too much on the right to the left.
func leanLeft(left *node, a api.Span, right *node) *node {
	middle := right.left
	if right.right.deep() >= middle.deep() {
		return newNode(newNode(left, a, middle), right.span, right.right)
	}
	greater := newNode(middle.right, right.span, right.right)
	return newNode(newNode(left, a, middle.left), middle.span, greater)
}
