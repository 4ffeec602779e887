// Package num is layer 1: see shared/doc/01-num.md.
package num

import (
	"math"
	"strconv"

	"spinney/api"
)

// Add, Sub, Mul, Quo, Rem, Mod, Neg and Abs reckon.
func Add(a, b int64) (int64, api.Errno) {
	sum := a + b
	// A sum that wraps round lands on the wrong side of a.
	if (b < 0) != (sum < a) {
		return 0, api.ErrOver
	}
	return sum, api.OK
}

func Sub(a, b int64) (int64, api.Errno) {
	difference := a - b
	// Not Add of a and Neg(b): -2^63 has no opposite, though -1 less it is a number.
	if (b > 0) != (difference < a) {
		return 0, api.ErrOver
	}
	return difference, api.OK
}

func Mul(a, b int64) (int64, api.Errno) {
	switch b {
	case 0:
		return 0, api.OK
	case -1:
		// Dividing back can't tell here: -2^63 by -1 wraps round to itself.
		return Neg(a)
	}
	product := a * b
	// What wraps round is off by 2^64 or more, and so does not divide back to a.
	if product/b != a {
		return 0, api.ErrOver
	}
	return product, api.OK
}

func Quo(a, b int64) (int64, api.Errno) {
	switch b {
	case 0:
		return 0, api.ErrZero
	case -1:
		// The one divisor by which a quotient can be over.
		return Neg(a)
	}
	return a / b, api.OK
}

func Rem(a, b int64) (int64, api.Errno) {
	switch b {
	case 0:
		return 0, api.ErrZero
	case -1:
		// Nothing is left, even where the quotient itself is over.
		return 0, api.OK
	}
	return a % b, api.OK
}

func Mod(a, b int64) (int64, api.Errno) {
	rest, e := Rem(a, b)
	if e != api.OK {
		return 0, e
	}
	if rest != 0 && (rest < 0) != (b < 0) {
		// Their signs differ, so this can't be over.
		rest += b
	}
	return rest, api.OK
}

func Neg(a int64) (int64, api.Errno) {
	if a == math.MinInt64 {
		return 0, api.ErrOver
	}
	return -a, api.OK
}

func Abs(a int64) (int64, api.Errno) {
	if a >= 0 {
		return a, api.OK
	}
	return Neg(a)
}

// Sign and Cmp compare.
func Sign(a int64) int64 { return int64(Cmp(a, 0)) }

func Cmp(a, b int64) int {
	switch {
	case a < b:
		return -1
	case a > b:
		return 1
	}
	return 0
}

// Text writes a number, Read reads one.
func Text(a int64) string { return strconv.FormatInt(a, 10) }

func Read(s string) (int64, api.Errno) {
	below, digits := false, 0
	// Kept at or below 0 till the end, since -2^63 has no opposite to be read as.
	n, e := int64(0), api.OK
	for i, c := range s {
		switch {
		case i == 0 && c == '-':
			below = true
		case c < '0' || c > '9':
			return 0, api.ErrChar
		default:
			digits++
			// When it is over the rest is looked at all the same: ErrChar comes ahead of ErrOver.
			if e == api.OK {
				n, e = lay(n, int64(c-'0'))
			}
		}
	}
	if digits == 0 {
		return 0, api.ErrChar
	}
	if e != api.OK {
		return 0, e
	}
	if below {
		return n, api.OK
	}
	return Neg(n)
}

// lay lays a digit behind the digits of n, which is not above 0.
func lay(n, digit int64) (int64, api.Errno) {
	tens, e := Mul(n, 10)
	if e != api.OK {
		return 0, e
	}
	return Sub(tens, digit)
}
