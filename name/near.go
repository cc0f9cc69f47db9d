package name

// far is the greatest number that Near tells.
const far = 8

// row tells, of the first runes of a, how far they are from the first runes of b, which are fewer or more by up to far: those with just as many stand in the middle.
// Whoever is further from the middle can't be nearer than far, so no row need be longer, however long the texts are.
type row [2*far + 1]int

// Near tells by how many runes put in, taken out or exchanged two texts differ, at most 8.
func Near(a, b string) int {
	others := []rune(b)
	r := firstRow()
	n := 0
	for _, x := range a {
		r.next(x, others, n)
		n++
	}
	d := far + len(others) - n
	if d < 0 || d >= len(r) {
		return far
	}
	return r[d]
}

// firstRow is the row of no runes of a: each rune of b must be put in.
func firstRow() row {
	var r row
	for d := range r {
		r[d] = far
		if d >= far {
			r[d] = d - far
		}
	}
	return r
}

// next makes of the row of n runes the one with x behind them. The row's ends stay far.
func (r *row) next(x rune, others []rune, n int) {
	for d := 1; d < len(r)-1; d++ {
		exchanged := r[d]
		if !stands(x, others, n+d-far) {
			exchanged++
		}
		put := r[d-1] + 1
		taken := r[d+1] + 1
		r[d] = min(exchanged, put, taken, far)
	}
}

// stands tells whether x stands at that place, which may lie outside.
func stands(x rune, others []rune, at int) bool {
	return at >= 0 && at < len(others) && others[at] == x
}
