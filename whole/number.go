package whole

import (
	"strings"

	"metrolab/api"
)

const (
	wordDigits = 9
	base       = 1_000_000_000
	// room is enough for the product of two integers that are not too long, and for a word behind it.
	room = 2*api.MaxLong/wordDigits + 2
)

// number is an integer whose decimal digits are grouped into words, the lowest ones first.
// All words from count on are 0, the word before is not; 0 has no words and no minus.
type number struct {
	words [room]uint32
	count int
	minus bool
}

// read makes n, which is 0, the value of a canonical integer that is not too long.
func (n *number) read(a api.Int) {
	digits := strings.TrimPrefix(string(a), "-")
	n.minus = len(digits) < len(a)
	for end := len(digits); end > 0; end -= wordDigits {
		n.words[n.count] = word(digits[max(0, end-wordDigits):end])
		n.count++
	}
	n.trim()
}

func word(digits string) uint32 {
	w := uint32(0)
	for i := range len(digits) {
		w = w*10 + uint32(digits[i]-'0')
	}
	return w
}

// text writes n canonically, unless it is too long.
func (n *number) text() (api.Int, api.Errno) {
	if n.count == 0 {
		return "0", api.OK
	}
	out := make([]byte, 1+n.count*wordDigits)
	at := len(out)
	for _, w := range n.words[:n.count] {
		for range wordDigits {
			at--
			out[at] = byte('0' + w%10)
			w /= 10
		}
	}
	for out[at] == '0' {
		at++
	}
	if len(out)-at > api.MaxLong {
		return "", api.ErrLarge
	}
	if n.minus {
		at--
		out[at] = '-'
	}
	return api.Int(out[at:]), api.OK
}

// long reports whether n has too many digits.
func (n *number) long() bool {
	if n.count == 0 {
		return false
	}
	digits := (n.count - 1) * wordDigits
	for top := n.words[n.count-1]; top > 0; top /= 10 {
		digits++
	}
	return digits > api.MaxLong
}

// trim leaves out leading zeros, and the minus of 0.
func (n *number) trim() {
	for n.count > 0 && n.words[n.count-1] == 0 {
		n.count--
	}
	if n.count == 0 {
		n.minus = false
	}
}

// set gives n the value of b.
func (n *number) set(b *number) {
	copy(n.words[:], b.words[:max(n.count, b.count)])
	n.count, n.minus = b.count, b.minus
}

// against returns -1, 0 or 1 for the order of the magnitudes of n and b.
func (n *number) against(b *number) int {
	if n.count != b.count {
		return order(n.count < b.count)
	}
	for i := n.count - 1; i >= 0; i-- {
		if n.words[i] != b.words[i] {
			return order(n.words[i] < b.words[i])
		}
	}
	return 0
}

func order(less bool) int {
	if less {
		return -1
	}
	return 1
}

// add adds b to n.
func (n *number) add(b *number) {
	switch {
	case n.minus == b.minus:
		n.grow(b)
	case n.against(b) >= 0:
		n.shrink(b)
	default:
		var rest number
		rest.set(b)
		rest.shrink(n)
		n.set(&rest)
	}
}

// grow adds the magnitude of b to that of n.
func (n *number) grow(b *number) {
	end := max(n.count, b.count)
	carry := uint32(0)
	for i := range end {
		sum := n.words[i] + b.words[i] + carry
		carry = sum / base
		n.words[i] = sum % base
	}
	n.words[end] = carry
	n.count = end + 1
	n.trim()
}

// shrink takes the magnitude of b, which is not greater, from that of n.
func (n *number) shrink(b *number) {
	borrow := uint32(0)
	for i := range n.count {
		taken := b.words[i] + borrow
		borrow = 0
		if n.words[i] < taken {
			borrow = 1
		}
		n.words[i] += borrow*base - taken
	}
	n.trim()
}

// multiply makes n, which is 0, the product of a and b, which are not too long.
func (n *number) multiply(a, b *number) {
	for i, x := range a.words[:a.count] {
		carry := uint64(0)
		for j, y := range b.words[:b.count] {
			sum := uint64(n.words[i+j]) + uint64(x)*uint64(y) + carry
			n.words[i+j] = uint32(sum % base)
			carry = sum / base
		}
		n.words[i+b.count] = uint32(carry)
	}
	n.count = a.count + b.count
	n.minus = a.minus != b.minus
	n.trim()
}

// scale multiplies n by a factor that is less than base.
func (n *number) scale(factor uint32) {
	carry := uint64(0)
	for i, w := range n.words[:n.count] {
		sum := uint64(w)*uint64(factor) + carry
		n.words[i] = uint32(sum % base)
		carry = sum / base
	}
	n.words[n.count] = uint32(carry)
	n.count++
	n.trim()
}

// split divides the magnitude of n by a part that is not 0 and less than base, and returns the rest.
func (n *number) split(part uint32) uint32 {
	rest := uint64(0)
	for i := n.count - 1; i >= 0; i-- {
		rest = rest*base + uint64(n.words[i])
		n.words[i] = uint32(rest / uint64(part))
		rest %= uint64(part)
	}
	n.trim()
	return uint32(rest)
}
