// Package whole is layer 1: see shared/doc/01-whole.md.
package whole

import (
	"math"

	"lancet/api"
)

// Add adds.
func Add(a, b int64) (int64, bool) {
	sum := a + b
	// A sum that wrapped round lies on the wrong side of a.
	if (sum > a) != (b > 0) {
		return 0, false
	}
	return sum, true
}

// Neg turns a sign.
func Neg(a int64) (int64, bool) {
	if a == math.MinInt64 {
		return 0, false
	}
	return -a, true
}

// Mul multiplies.
func Mul(a, b int64) (int64, bool) {
	if a == 0 {
		return 0, true
	}
	// The one product that wraps round and still divides back: -2^63 / -1 is -2^63 in Go.
	if a == -1 {
		return Neg(b)
	}
	product := a * b
	if product/a != b {
		return 0, false
	}
	return product, true
}

// Gcd answers the greatest number that divides both.
func Gcd(a, b int64) (int64, bool) {
	x, y := size(a), size(b)
	for y != 0 {
		x, y = y, x%y
	}
	if x > math.MaxInt64 {
		return 0, false
	}
	return int64(x), true
}

// size answers a number without its sign; unsigned, since that of -2^63 has no place in an int64.
func size(a int64) uint64 {
	if a < 0 {
		return -uint64(a)
	}
	return uint64(a)
}

// mostDigits is how many digits 2^63 has, the greatest size.
const mostDigits = 19

// Text answers a number in decimal.
func Text(a int64) string {
	var b [1 + mostDigits]byte
	from := len(b)
	left := size(a)
	for range mostDigits {
		from--
		b[from] = '0' + byte(left%10)
		left /= 10
		if left == 0 {
			break
		}
	}
	if a < 0 {
		from--
		b[from] = '-'
	}
	return string(b[from:])
}

// Read reads a number.
func Read(s string) (int64, api.Errno) {
	digits, below := s, false
	if len(s) > 0 && s[0] == '-' {
		digits, below = s[1:], true
	}
	if !plain(digits) || below && digits == "0" {
		return 0, api.ErrForm
	}
	n, ok := lessThanZero(digits)
	if ok && !below {
		n, ok = Neg(n)
	}
	if !ok {
		return 0, api.ErrOver
	}
	return n, api.OK
}

// plain tells whether there are digits and nothing else, as they are written: a 0 leads only where it is alone.
func plain(digits string) bool {
	if digits == "" || digits[0] == '0' && len(digits) > 1 {
		return false
	}
	for i := range len(digits) {
		if digits[i] < '0' || digits[i] > '9' {
			return false
		}
	}
	return true
}

// lessThanZero answers 0 less the number of these digits: below 0 there is room for one number more, -2^63.
func lessThanZero(digits string) (int64, bool) {
	n := int64(0)
	for i := range len(digits) {
		tenfold, ok := Mul(n, 10)
		if !ok {
			return 0, false
		}
		n, ok = Add(tenfold, -int64(digits[i]-'0'))
		if !ok {
			return 0, false
		}
	}
	return n, true
}
