// Package passes makes and reads the passes of sessions.
package passes

import (
	"errors"

	"doorkeeper/api"
	"doorkeeper/octets"
)

var (
	// ErrNumber says that no session can have this number.
	ErrNumber = errors.New("passes: a session's number is not 0 to 4095")
	// ErrPass says that a text is the pass of no number.
	ErrPass = errors.New("passes: no pass with this secret")
)

const (
	version = "v1"
	length  = 9
)

var digits = [16]byte{'0', '1', '2', '3', '4', '5', '6', '7', '8', '9', 'a', 'b', 'c', 'd', 'e', 'f'}

// Make makes the pass of a session's number with a secret.
func Make(secret string, id int) (string, error) {
	if id < 0 || id >= api.IDs {
		return "", ErrNumber
	}
	front := version + threeDigits(id)
	sum := octets.Sum(secret, front)
	return front + twoDigits(byte(sum)) + twoDigits(byte(sum>>8)), nil
}

// Read tells of which session's number a text is the pass with a secret.
func Read(secret, pass string) (int, error) {
	if len(pass) != length {
		return 0, ErrPass
	}
	id := 0
	for _, digit := range []byte(pass[len(version) : len(version)+3]) {
		id = id<<4 | value(digit)
	}
	// What was not read closely, a wrong digit among it, shows here.
	if made, err := Make(secret, id); err != nil || made != pass {
		return 0, ErrPass
	}
	return id, nil
}

func value(digit byte) int {
	switch {
	case digit >= '0' && digit <= '9':
		return int(digit - '0')
	case digit >= 'a' && digit <= 'f':
		return int(digit-'a') + 10
	}
	return 0
}

func threeDigits(id int) string {
	return string([]byte{digits[id>>8&15], digits[id>>4&15], digits[id&15]})
}

func twoDigits(b byte) string {
	return string([]byte{digits[b>>4], digits[b&15]})
}
