package fold

const (
	mark     = `\`
	needMark = ";,\n" // beside the mark itself
)

// meant gives the byte that is meant by what follows a mark.
func meant(rest string) (byte, bool) {
	if rest == "" {
		return 0, false
	}
	switch b := rest[0]; b {
	case '\\', ';', ',':
		return b, true
	case 'n', 'N':
		return '\n', true
	}
	return 0, false
}
