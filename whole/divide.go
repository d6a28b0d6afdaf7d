package whole

// divide makes q, which is 0, the quotient of n and b, rounded down, and leaves the remainder in n. (b is not 0.)
func (n *number) divide(b, q *number) {
	apart := n.minus != b.minus
	n.takeOut(b, q)
	if apart && n.count > 0 {
		n.add(b)
		one := number{words: [room]uint32{1}, count: 1}
		q.grow(&one)
	}
	q.minus = apart
	q.trim()
}

// takeOut takes b, which is not 0, out of n as often as its magnitude goes into that of n, and counts this in q, which is 0.
func (n *number) takeOut(b, q *number) {
	if n.against(b) < 0 {
		return
	}
	if b.count == 1 {
		q.set(n)
		q.minus = false
		rest := q.split(b.words[0])
		clear(n.words[:n.count])
		n.words[0], n.count = rest, 1
		n.trim()
		return
	}
	// A divisor whose first word is at least half of base makes the guesses of quotient words nearly exact.
	factor := base / (b.words[b.count-1] + 1)
	var part number
	part.set(b)
	part.scale(factor)
	n.scale(factor)
	for at := n.count - part.count; at >= 0; at-- {
		q.words[at] = n.takeAt(&part, at)
	}
	q.count = n.count - part.count + 1
	q.trim()
	n.trim()
	n.split(factor)
}

// takeAt takes part times base to the power of at out of n as often as it goes, which is less than base times, and returns how often.
func (n *number) takeAt(part *number, at int) uint32 {
	guess := n.guess(part, at)
	carry := uint64(0)
	for i, w := range part.words[:part.count] {
		carry += guess * uint64(w)
		n.words[at+i], carry = less(n.words[at+i], carry)
	}
	short := uint64(n.words[at+part.count]) < carry
	n.words[at+part.count] = 0
	if short {
		guess--
		n.addAt(part, at)
	}
	return uint32(guess)
}

// less takes a number from a word, and returns the word and what must still be taken from the next one.
func less(w uint32, taken uint64) (uint32, uint64) {
	low, next := uint32(taken%base), taken/base
	if w < low {
		return w + base - low, next + 1
	}
	return w - low, next
}

// guess returns how often takeAt can take part out of n, or one more.
func (n *number) guess(part *number, at int) uint64 {
	end := part.count
	first, second := uint64(part.words[end-1]), uint64(part.words[end-2])
	top := uint64(n.words[at+end])*base + uint64(n.words[at+end-1])
	guess := min(top/first, base-1)
	rest := top - guess*first
	for guess*second > rest*base+uint64(n.words[at+end-2]) {
		guess--
		rest += first
	}
	return guess
}

// addAt gives back what was taken once too often; the carry behind it cancels the word that was missing.
func (n *number) addAt(part *number, at int) {
	carry := uint32(0)
	for i, w := range part.words[:part.count] {
		sum := n.words[at+i] + w + carry
		carry = sum / base
		n.words[at+i] = sum % base
	}
}
