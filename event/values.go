package event

import (
	"hostelry/api"
	"hostelry/civil"
)

// The bytes of a text.
const (
	firstSign = ' '
	lastSign  = '~'
	newLine   = '\n'
)

func isUID(s string) bool {
	return between(1, len(s), api.MaxUID) && allAre(inUID, s)
}

func isText(s string) bool {
	return len(s) <= api.MaxText && allAre(inText, s)
}

func isMinute(m int) bool {
	_, _, _, err := civil.Clock(m)
	return err == api.OK
}

func isLong(long int) bool {
	return between(1, long, api.MaxLong)
}

func areRooms(rooms ...int) bool {
	return between(1, len(rooms), api.MaxRooms) && ascend(isRoom, rooms...)
}

func areExcept(minutes ...int) bool {
	return len(minutes) <= api.MaxList && ascend(isMinute, minutes...)
}

func isRoom(room int) bool {
	return between(0, room, api.MaxRoom-1)
}

func inUID(b byte) bool {
	return between('a', b, 'z') || between('A', b, 'Z') || between('0', b, '9') || b == '-'
}

func inText(b byte) bool {
	return between(firstSign, b, lastSign) || b == newLine
}

// allAre reports whether each byte of a string is such a one.
func allAre(such func(b byte) bool, s string) bool {
	for i := range len(s) {
		if !such(s[i]) {
			return false
		}
	}
	return true
}

// ascend reports whether each number is such a one, and greater than the one before it.
func ascend(such func(n int) bool, numbers ...int) bool {
	for i, n := range numbers {
		if !such(n) || i > 0 && numbers[i-1] >= n {
			return false
		}
	}
	return true
}

func between[N int | byte](least, n, greatest N) bool {
	return least <= n && n <= greatest
}
