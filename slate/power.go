package slate

// power is on, and without a limit, as long as nothing else is said.
type power struct {
	off     bool
	limited bool
	left    int // how many bytes it lasts for, if it is limited
}

// limit lets the power go off after so many bytes.
func (p *power) limit(n int) {
	p.limited, p.left = true, max(n, 0)
}

// use gives how many of n bytes the power lasts for. It goes off if these are
// not all.
func (p *power) use(n int) int {
	if !p.limited {
		return n
	}
	used := min(n, p.left)
	p.left -= used
	p.off = used < n
	return used
}
