// Package exact is layer 1: whole numbers of 64 bits, never rounded, never wrapped. See shared/doc/01-exact.md.
package exact

import (
	"math"

	"regatta/api"
)

// Add is a + b; ErrOver, if that needs more than 64 bits with a sign.
func Add(a, b int64) (int64, api.Errno) {
	// Each bound is worked out on the side where it can't wrap itself.
	if b > 0 && a > math.MaxInt64-b || b < 0 && a < math.MinInt64-b {
		return 0, api.ErrOver
	}
	return a + b, api.OK
}

// Sub is a - b; ErrOver, if that needs more than 64 bits with a sign.
func Sub(a, b int64) (int64, api.Errno) {
	if b > 0 && a < math.MinInt64+b || b < 0 && a > math.MaxInt64+b {
		return 0, api.ErrOver
	}
	return a - b, api.OK
}

// Mul is a times b; ErrOver, if that needs more than 64 bits with a sign.
func Mul(a, b int64) (int64, api.Errno) {
	if a == 0 {
		return 0, api.OK
	}
	// The least number by -1 wraps to itself, so that dividing back would not show it.
	if a == -1 && b == math.MinInt64 {
		return 0, api.ErrOver
	}
	product := a * b
	if product/a != b {
		return 0, api.ErrOver
	}
	return product, api.OK
}

// Floor is the greatest whole number not above a / b; ErrZero, if b is 0; ErrArg, if b is below 0.
func Floor(a, b int64) (int64, api.Errno) {
	if e := divisor(b); e != api.OK {
		return 0, e
	}
	// Go cuts towards 0: only below 0 is that too much.
	if a%b < 0 {
		return a/b - 1, api.OK
	}
	return a / b, api.OK
}

// Ceil is the least whole number not below a / b; ErrZero, if b is 0; ErrArg, if b is below 0.
func Ceil(a, b int64) (int64, api.Errno) {
	if e := divisor(b); e != api.OK {
		return 0, e
	}
	// Go cuts towards 0: only above 0 is that too little.
	if a%b > 0 {
		return a/b + 1, api.OK
	}
	return a / b, api.OK
}

// Gcd is the greatest number that divides both, 0 of 0 and 0; ErrArg, if one is below 0.
func Gcd(a, b int64) (int64, api.Errno) {
	if a < 0 || b < 0 {
		return 0, api.ErrArg
	}
	return common(a, b), api.OK
}

// Lcm is the least number from 1 on that all of l divide, 1 of none; ErrArg, if one of l is below 1; ErrOver, if that needs more than 63 bits; of both the first one met, along l.
func Lcm(l ...int64) (int64, api.Errno) {
	all, e := int64(1), api.OK
along:
	for _, n := range l {
		if all, e = multiple(all, n); e != api.OK {
			break along
		}
	}
	return all, e
}

// divisor tells what is wrong with b as a number to divide by.
func divisor(b int64) api.Errno {
	switch {
	case b == 0:
		return api.ErrZero
	case b < 0:
		return api.ErrArg
	}
	return api.OK
}

// common is the greatest number that divides both; neither may be below 0.
func common(a, b int64) int64 {
steps:
	for {
		if b == 0 {
			break steps
		}
		a, b = b, a%b
	}
	return a
}

// multiple is the least number that both divide; all must be above 0, n is still to be looked at.
func multiple(all, n int64) (int64, api.Errno) {
	if n < 1 {
		return 0, api.ErrArg
	}
	// Divided ahead of multiplying, so that only the answer itself can be too great.
	return Mul(all/common(all, n), n)
}
