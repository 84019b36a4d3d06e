// Package wide contains whole numbers of 128 bits.
package wide

import "math/bits"

// Int is a whole number from -2^127 to 2^127 - 1, in two's complement. Results that are not wrap around.
type Int struct{ high, low uint64 }

// Of returns a number.
func Of(n int) Int { return Int{high: uint64(n >> 63), low: uint64(n)} }

// Plus returns the sum of two numbers.
func (a Int) Plus(b Int) Int {
	low, carry := bits.Add64(a.low, b.low, 0)
	high, _ := bits.Add64(a.high, b.high, carry)
	return Int{high: high, low: low}
}

// Minus returns the difference of two numbers.
func (a Int) Minus(b Int) Int {
	low, borrow := bits.Sub64(a.low, b.low, 0)
	high, _ := bits.Sub64(a.high, b.high, borrow)
	return Int{high: high, low: low}
}

// Times returns the product of two numbers.
func (a Int) Times(b Int) Int {
	high, low := bits.Mul64(a.low, b.low)
	return Int{high: high + a.high*b.low + a.low*b.high, low: low}
}

// Sign returns -1, 0 or 1.
func (a Int) Sign() int {
	switch {
	case a.high>>63 == 1:
		return -1
	case a.high == 0 && a.low == 0:
		return 0
	}
	return 1
}

// Less reports whether a number is less than another one, if their difference does not wrap around.
func (a Int) Less(b Int) bool { return a.Minus(b).Sign() < 0 }

// Size returns the absolute value of a number.
func (a Int) Size() Int {
	if a.Sign() < 0 {
		return Int{}.Minus(a)
	}
	return a
}

// Int returns the number as an int, and whether it is one.
func (a Int) Int() (int, bool) {
	n := int(a.low)
	return n, Of(n) == a
}

// length returns how many bits a number that is not negative has.
func (a Int) length() int {
	if a.high > 0 {
		return 64 + bits.Len64(a.high)
	}
	return bits.Len64(a.low)
}

// shifted returns a number that is not negative, times 2^n.
func (a Int) shifted(n int) Int {
	if n >= 64 {
		return Int{high: a.low << (n - 64)}
	}
	return Int{high: a.high<<n | a.low>>(64-n), low: a.low << n}
}

// Divide returns the quotient and the rest of two numbers, the first one not negative, the second one greater than 0.
func Divide(a, b Int) (Int, Int) {
	if a.high == 0 && b.high == 0 {
		return Int{low: a.low / b.low}, Int{low: a.low % b.low}
	}
	var quotient Int
	for n := a.length() - b.length(); n >= 0; n-- {
		part := b.shifted(n)
		if !a.Less(part) {
			a = a.Minus(part)
			quotient = quotient.Plus(Of(1).shifted(n))
		}
	}
	return quotient, a
}

// Common returns the greatest number that divides two numbers that are not negative, and not both 0.
func Common(a, b Int) Int {
	for b.Sign() > 0 {
		_, rest := Divide(a, b)
		a, b = b, rest
	}
	return a
}
