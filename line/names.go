package line

const maxName = 20 // bytes

// areNames reports whether each of these is the name of a line.
func areNames(names ...string) bool {
	for _, name := range names {
		if len(name) < 1 || len(name) > maxName || !allInNames(name) {
			return false
		}
	}
	return true
}

// allInNames reports whether a text has only bytes that names have.
func allInNames(s string) bool {
	for i := range len(s) {
		if !inNames(s[i]) {
			return false
		}
	}
	return true
}

func inNames(b byte) bool {
	return 'A' <= b && b <= 'Z' || '0' <= b && b <= '9' || b == '-'
}

// capitals goes byte by byte, since strings.ToUpper makes letters of names out
// of some beyond ASCII too.
func capitals(s string) string {
	out := []byte(s)
	for i, b := range out {
		if 'a' <= b && b <= 'z' {
			out[i] = b - 'a' + 'A'
		}
	}
	return string(out)
}
