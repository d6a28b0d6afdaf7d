package ratio

import "metrolab/api"

// SignRoot returns the sign of a + b root c.
func SignRoot(a, b, c api.Rat) (int, api.Errno) {
	return decision(func(k *keeper) int {
		x, y, z := k.split(a), k.split(b), k.split(c)
		k.radicand(z)
		return k.signRoot(x, y, z)
	})
}

// SignRoots returns the sign of a + b root c + d root e.
func SignRoots(a, b, c, d, e api.Rat) (int, api.Errno) {
	return decision(func(k *keeper) int {
		v, w, x, y, z := k.split(a), k.split(b), k.split(c), k.split(d), k.split(e)
		k.radicand(x)
		k.radicand(z)
		return k.signRoots(v, w, x, y, z)
	})
}

// radicand keeps an error if a number has no root.
func (k *keeper) radicand(x fraction) {
	if k.sign(x.num) < 0 {
		k.keep(api.ErrRange)
	}
}

func (k *keeper) signRoot(a, b, c fraction) int {
	return signOfTwo(k.sign(a.num), k.sign(b.num)*k.sign(c.num), func() int {
		return k.order(k.product(a, a), k.squareOf(b, c))
	})
}

// signRoots puts the two roots together, and then a beside them: if a + r, where r = b root c + d root e, has terms of
// different signs, a a - r r decides, which has one root only: a a - b b c - d d e - 2 b d root (c e).
func (k *keeper) signRoots(a, b, c, d, e fraction) int {
	first, second := k.squareOf(b, c), k.squareOf(d, e)
	roots := signOfTwo(k.sign(b.num)*k.sign(c.num), k.sign(d.num)*k.sign(e.num), func() int {
		return k.order(first, second)
	})
	return signOfTwo(k.sign(a.num), roots, func() int {
		rest := k.difference(k.difference(k.product(a, a), first), second)
		mixed := k.product(fraction{"-2", "1"}, k.product(b, d))
		return k.signRoot(rest, mixed, k.product(c, e))
	})
}

// squareOf returns the square of b root c.
func (k *keeper) squareOf(b, c fraction) fraction {
	return k.product(k.product(b, b), c)
}

// signOfTwo returns the sign of a sum of two terms with the signs s and t.
// order, which is asked only if these are opposite, compares the magnitudes of the first and the second term.
func signOfTwo(s, t int, order func() int) int {
	switch {
	case s == 0:
		return t
	case t == 0, s == t:
		return s
	}
	return s * order()
}
