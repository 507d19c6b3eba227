// Package code is layer 1: numbers and texts as bytes.
package code

import "homestead/api"

// lastPlace is where the last byte of the longest numbers stands: the groups ahead of it leave it one bit of 64.
const lastPlace = 9

// Put tells the bytes of n.
func Put(n int) []byte {
	return lay(nil, n)
}

// Get tells the number with whose bytes b begins, and how many bytes these are.
func Get(b []byte) (int, int, api.Errno) {
	turned := uint64(0)
	for i, x := range b {
		if i == lastPlace && x > 1 {
			break // more than 64 bits
		}
		if i > 0 && x == 0 {
			break // Put ends a longer number with no group of noughts
		}
		turned |= uint64(x&127) << (7 * i)
		if x < 128 {
			return turnBack(turned), i + 1, api.OK
		}
	}
	return 0, 0, api.ErrForm
}

// Text tells the bytes of s, with how many these are ahead.
func Text(s string) []byte {
	return append(Put(len(s)), s...)
}

// GetText tells the text with whose Text b begins, and how many bytes that is.
func GetText(b []byte) (string, int, api.Errno) {
	size, used, err := Get(b)
	if err != api.OK || size < 0 || size > len(b)-used {
		return "", 0, api.ErrForm
	}
	end := used + size
	return string(b[used:end]), end, api.OK
}

// Nums tells the bytes of how many numbers l has, and of each.
func Nums(l []int) []byte {
	return lay(Put(len(l)), l...)
}

// GetNums tells the numbers with whose Nums b begins, and how many bytes these are.
func GetNums(b []byte) ([]int, int, api.Errno) {
	used := 0
	next := func() (int, bool) {
		n, size, err := Get(b[used:])
		used += size
		return n, err == api.OK
	}
	many, ok := next()
	if !ok || many < 0 {
		return nil, 0, api.ErrForm
	}
	first := used
	// Memory is taken only when all that are told are known to be there.
	for range many {
		if _, ok := next(); !ok {
			return nil, 0, api.ErrForm
		}
	}
	l := make([]int, many)
	used = first
	for i := range l {
		l[i], _ = next()
	}
	return l, used, api.OK
}

// lay puts the bytes of numbers behind b.
func lay(b []byte, l ...int) []byte {
numbers:
	for _, n := range l {
		turned := turn(n)
		for {
			if turned < 128 {
				b = append(b, byte(turned))
				continue numbers
			}
			b = append(b, byte(turned&127)|128)
			turned >>= 7
		}
	}
	return b
}

// turn makes numbers near 0, on both sides, small ones without a sign.
func turn(n int) uint64 {
	if n < 0 {
		return 2*uint64(-(n+1)) + 1
	}
	return 2 * uint64(n)
}

// turnBack is the number that was turned.
func turnBack(turned uint64) int {
	half := int(turned / 2)
	if turned%2 == 1 {
		return -half - 1
	}
	return half
}
