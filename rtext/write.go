package rtext

import (
	"strconv"
	"strings"
)

// written gives the text of the parts that have something to tell.
func written(parts ...part) string {
	var texts []string
	for _, p := range parts {
		if p.value != "" {
			texts = append(texts, p.name+afterName+p.value)
		}
	}
	return strings.Join(texts, betweenParts)
}

// unless gives a number as text, the empty one if it is the number that goes without saying.
func unless(usual, n int) string {
	if n == usual {
		return ""
	}
	return strconv.Itoa(n)
}

// list gives the text of the elements of a list.
func list[E any](text func(e E) string, elements ...E) string {
	texts := make([]string, 0, len(elements))
	for _, e := range elements {
		texts = append(texts, text(e))
	}
	return strings.Join(texts, betweenElements)
}
