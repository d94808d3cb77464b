package scribe

import (
	"strconv"
	"strings"
)

// blank stands between two words.
const blank = " "

// joined gives the text of the words.
func joined(words ...string) string {
	return strings.Join(words, blank)
}

// sealed gives the line of a text. The length in front of the text tells that
// nothing is missing and nothing too much, the sum that nothing is changed.
func sealed(text string) string {
	return joined(strconv.Itoa(len(text)), strconv.FormatUint(uint64(sumOf(text)), 10), text)
}

// unsealed gives the text of a line, and reports whether the line is the sealed text.
func unsealed(line string) (string, bool) {
	_, rest, _ := strings.Cut(line, blank)
	_, text, _ := strings.Cut(rest, blank)
	return text, sealed(text) == line
}

// The numbers of the sum that is known as FNV-1a.
const (
	firstSum = 2166136261
	factor   = 16777619
)

// sumOf gives the sum of a text. Each step can be undone, as the factor is odd,
// so texts that differ in one byte alone never have the same sum.
func sumOf(text string) uint32 {
	sum := uint32(firstSum)
	for i := range len(text) {
		sum = (sum ^ uint32(text[i])) * factor
	}
	return sum
}
