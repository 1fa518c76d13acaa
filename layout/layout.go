// Package layout tells what stands where on a disk, and in which bytes.
package layout

import (
	"errors"
	"strings"

	"doorkeeper/api"
	"doorkeeper/octets"
)

// ErrSize says that no disk can have so many sectors.
var ErrSize = errors.New("layout: a disk has not 12 to 200 sectors")

const (
	mark            = "DK"
	heads           = 2
	front           = 8 // bytes of a record ahead of its payload
	firstGeneration = 1
	noSessions      = "\x00"
)

// Blank is a disk on which no session stands yet.
func Blank(sectors int) (string, error) {
	if !isSize(sectors) {
		return "", ErrSize
	}
	front := Fill(Head(firstGeneration, 0), heads*api.Sector)
	front += Record(firstGeneration, 0, noSessions)
	return Fill(front, sectors*api.Sector), nil
}

func isSize(sectors int) bool {
	return sectors >= api.MinSectors && sectors <= api.MaxSectors
}

// Head is the sector that makes a region the one in use.
func Head(generation uint32, region uint8) string {
	head := mark + octets.Four(generation) + octets.One(region)
	return Fill(summed(head), api.Sector)
}

// Record is a payload as it stands in a region. The payload has at most 65535
// bytes: no region holds more.
func Record(generation uint32, number uint16, payload string) string {
	length := octets.Two(uint16(len(payload)))
	return summed(length + octets.Four(generation) + octets.Two(number) + payload)
}

func summed(text string) string { return text + octets.Two(octets.Sum(text)) }

// Fill is a text with noughts behind it, so many bytes in all.
func Fill(text string, bytes int) string {
	return text + strings.Repeat("\x00", bytes-len(text))
}
