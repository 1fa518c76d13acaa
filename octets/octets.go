// Package octets writes numbers as bytes and sums texts up.
package octets

import "doorkeeper/api"

// One is a number in one byte.
func One(n uint8) string { return string([]byte{n}) }

// Two is a number in two bytes, the low one first.
func Two(n uint16) string { return string([]byte{byte(n), byte(n >> 8)}) }

// Four is a number in four bytes, the low one first.
func Four(n uint32) string {
	return string([]byte{byte(n), byte(n >> 8), byte(n >> 16), byte(n >> 24)})
}

// Sum is the sum of a text that comes in parts, so that a long one need not be
// copied to be summed with another.
func Sum(parts ...string) uint16 {
	sum := uint32(1)
	for _, part := range parts {
		sum = sumOn(sum, part)
	}
	return uint16(sum)
}

// sumOn goes on with a sum. It stays below Prime, which keeps the product
// within 32 bits and the sum within 16.
func sumOn(sum uint32, text string) uint32 {
	for i := 0; i < len(text); i++ {
		sum = (sum*api.Factor + uint32(text[i]) + 1) % api.Prime
	}
	return sum
}
