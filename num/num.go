// Package num reckons with numbers of 64 bits that go round, and reads and writes them.
package num

import (
	"math/bits"

	"drey/api"
)

// Base bounds: the bases in which numbers are written.
const (
	LeastBase = 2
	MostBase  = 36
)

// Digits of all bases, each at its value.
const letters = "0123456789abcdefghijklmnopqrstuvwxyz"

// Room for the longest text: the least number to the base 2 has 64 digits and a sign.
const mostBytes = 65

// The least number without its sign; no number above 0 is as great.
const leastBare = 1 << 63

// Six bits tell of a shift: more places than 63 there aren't.
const places = 63

// Add, Sub, Mul, Neg: as they are, going round.
func Add(a, b int64) int64 { return a + b }

func Sub(a, b int64) int64 { return a - b }

func Mul(a, b int64) int64 { return a * b }

func Neg(a int64) int64 { return -a }

// Div: the quotient, cut off towards 0; by 0 there is none.
func Div(a, b int64) (int64, api.Errno) {
	if b == 0 {
		return 0, api.ErrZero
	}
	return a / b, api.OK
}

// Mod: what is left of that.
func Mod(a, b int64) (int64, api.Errno) {
	if b == 0 {
		return 0, api.ErrZero
	}
	return a % b, api.OK
}

// And, Or, Xor, Not: bit by bit.
func And(a, b int64) int64 { return a & b }

func Or(a, b int64) int64 { return a | b }

func Xor(a, b int64) int64 { return a ^ b }

func Not(a int64) int64 { return ^a }

// Left, Right, Logical: shifted to the left; to the right, with the sign, without.
func Left(a, n int64) int64 { return a << (n & places) }

func Right(a, n int64) int64 { return a >> (n & places) }

func Logical(a, n int64) int64 { return int64(uint64(a) >> (n & places)) }

// Compare: -1, 0 or 1: less, alike, greater.
func Compare(a, b int64) int64 {
	if a < b {
		return -1
	}
	if a > b {
		return 1
	}
	return 0
}

// Abs: a number without its sign; the least one stays.
func Abs(a int64) int64 {
	if a < 0 {
		return Neg(a)
	}
	return a
}

// Size: how many bits a number has without its sign.
func Size(a int64) int { return bits.Len64(bare(a)) }

// Hash: a number, mixed: unlike ones have unlike hashes.
func Hash(a int64) uint64 {
	// Each line can be undone (the factors are odd), so that no two numbers meet.
	x := uint64(a)
	x = (x ^ x>>30) * 0xbf58476d1ce4e5b9
	x = (x ^ x>>27) * 0x94d049bb133111eb
	return x ^ x>>31
}

// Text: a number, as it is written to the base 10.
func Text(a int64) string { return write(a, 10) }

// In: likewise to a base.
func In(a int64, base int) (string, api.Errno) {
	if !isBase(base) {
		return "", api.ErrRange
	}
	return write(a, uint64(base)), api.OK
}

// Parse: the number of a text to a base: a sign, perhaps, and digits; it goes round nowhere.
func Parse(s string, base int) (int64, api.Errno) {
	if !isBase(base) {
		return 0, api.ErrRange
	}
	below := len(s) > 0 && s[0] == '-'
	if below {
		s = s[1:]
	}
	n, e := read(s, uint64(base))
	if e != api.OK {
		return 0, e
	}
	if below {
		return Neg(int64(n)), api.OK
	}
	if n == leastBare {
		return 0, api.ErrOver
	}
	return int64(n), api.OK
}

// Leading: the number with which a text begins to the base 10, and how many bytes it has; what is too great goes round.
func Leading(s string) (int64, int) {
	from := 0
	if len(s) > 0 && (s[0] == '-' || s[0] == '+') {
		from = 1
	}
	n, at := int64(0), from
	for at < len(s) && digit(s[at]) < 10 {
		n = n*10 + int64(digit(s[at]))
		at++
	}
	if at == from {
		return 0, 0
	}
	if s[0] == '-' {
		n = Neg(n)
	}
	return n, at
}

func isBase(base int) bool { return base >= LeastBase && base <= MostBase }

// bare: a number without its sign, the least one, too.
func bare(a int64) uint64 { return uint64(Abs(a)) }

// write: a number to a base that there is.
func write(a int64, base uint64) string {
	var digits [mostBytes]byte
	at := len(digits) - 1
	left := bare(a)
	for left >= base {
		digits[at] = letters[left%base]
		left /= base
		at--
	}
	digits[at] = letters[left]
	if a < 0 {
		at--
		digits[at] = '-'
	}
	return string(digits[at:])
}

// read: the number of digits to a base, up to leastBare. The digits behind one that is too many are looked at, too: a wrong one is told ahead of that.
func read(s string, base uint64) (uint64, api.Errno) {
	if s == "" {
		return 0, api.ErrForm
	}
	n, over := uint64(0), false
	for i := range len(s) {
		d := digit(s[i])
		if d >= base {
			return 0, api.ErrForm
		}
		if over || n > (leastBare-d)/base {
			over = true
			continue
		}
		n = n*base + d
	}
	if over {
		return 0, api.ErrOver
	}
	return n, api.OK
}

// digit: a digit's value; MostBase, which no base has, of all else.
func digit(c byte) uint64 {
	switch {
	case c >= '0' && c <= '9':
		return uint64(c - '0')
	case c >= 'a' && c <= 'z':
		return uint64(c-'a') + 10
	case c >= 'A' && c <= 'Z':
		return uint64(c-'A') + 10
	}
	return MostBase
}
