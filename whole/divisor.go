package whole

// gcd returns the greatest common divisor of two numbers, which are used up.
func gcd(x, y *number) *number {
	x.minus, y.minus = false, false
	if x.against(y) < 0 {
		x, y = y, x
	}
	for y.count > 2 {
		if !leap(x, y) {
			var q number
			x.takeOut(y, &q)
			x, y = y, x
		}
	}
	if y.count == 0 {
		return x
	}
	var q number
	x.takeOut(y, &q)
	a, b := y.low(), x.low()
	for b > 0 {
		a, b = b, a%b
	}
	clear(x.words[:x.count])
	x.words[0], x.words[1], x.count = uint32(a%base), uint32(a/base), 2
	x.trim()
	return x
}

// low returns the value of the two lowest words.
func (n *number) low() uint64 {
	return uint64(n.words[1])*base + uint64(n.words[0])
}

// leap makes as many steps of Euclid's algorithm at once as the leading digits of x and y determine (Lehmer), and reports whether there was one.
// x has more than two words and is not less than y.
func leap(x, y *number) bool {
	a, b, c, d := steps(heads(x, y))
	if b == 0 {
		return false
	}
	var s, t int64
	for i := range x.count {
		u, v := int64(x.words[i]), int64(y.words[i])
		x.words[i], s = carry(s + a*u + b*v)
		y.words[i], t = carry(t + c*u + d*v)
	}
	y.count = x.count
	x.trim()
	y.trim()
	return true
}

// carry splits a sum, which may be negative, into a word and what goes to the next one.
func carry(sum int64) (uint32, int64) {
	next := sum / base
	if sum < next*base {
		next--
	}
	return uint32(sum - next*base), next
}

// heads returns the 18 leading digits of x, and those of y at the same places.
func heads(x, y *number) (int64, int64) {
	power := int64(1)
	for int64(x.words[x.count-1])*power < base/10 {
		power *= 10
	}
	head := func(n *number) int64 {
		w := n.words[x.count-3 : x.count]
		return (int64(w[2])*base+int64(w[1]))*power + int64(w[0])*power/base
	}
	return head(x), head(y)
}

// steps returns the factors that turn two numbers with the leading digits x and y into their later remainders a, b and c, d.
// A step counts only if all numbers with these leading digits have the same quotient: the least and the greatest one are compared.
// The factors stay near the root of 10 to the power of 18, so that leap's sums are far from overflow.
func steps(x, y int64) (a, b, c, d int64) {
	a, d = 1, 1
	for y+c != 0 && y+d != 0 {
		q := (x + a) / (y + c)
		if q != (x+b)/(y+d) {
			break
		}
		a, b, c, d = c, d, a-q*c, b-q*d
		x, y = y, x-q*y
	}
	return a, b, c, d
}
