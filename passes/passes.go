// Package passes makes the passes of sessions.
package passes

import (
	"errors"

	"doorkeeper/api"
	"doorkeeper/octets"
)

// ErrNumber says that no session can have this number.
var ErrNumber = errors.New("passes: a session's number is not 0 to 4095")

const version = "v1"

var digits = [16]byte{'0', '1', '2', '3', '4', '5', '6', '7', '8', '9', 'a', 'b', 'c', 'd', 'e', 'f'}

// Make makes the pass of a session's number with a secret.
func Make(secret string, id int) (string, error) {
	if id < 0 || id >= api.IDs {
		return "", ErrNumber
	}
	front := version + threeDigits(id)
	sum := octets.Sum(secret, front)
	return front + twoDigits(byte(sum)) + twoDigits(byte(sum>>8)), nil
}

func threeDigits(id int) string {
	return string([]byte{digits[id>>8&15], digits[id>>4&15], digits[id&15]})
}

func twoDigits(b byte) string {
	return string([]byte{digits[b>>4], digits[b&15]})
}
