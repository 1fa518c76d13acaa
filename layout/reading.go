package layout

import (
	"errors"
	"strings"

	"doorkeeper/api"
	"doorkeeper/octets"
)

var (
	// ErrHead says that no region of a disk is in use.
	ErrHead = errors.New("layout: neither of the sectors 0 and 1 is a head")
	// ErrRecord says that the record that was looked for does not stand there.
	ErrRecord = errors.New("layout: no such record")
)

// Place is what a head tells: the region in use, and its records' generation;
// and the sector, 0 or 1, in which the head stands.
type Place struct {
	Generation uint32
	Region     uint8
	Sector     int
}

// Next is the place to go on at: the region that is not in use. Its head is to
// stand in the other sector, so that this one holds until that is written.
func (p Place) Next() Place {
	return Place{Generation: p.Generation + 1, Region: 1 - p.Region, Sector: 1 - p.Sector}
}

// Sectors tells how many sectors a disk of so many bytes has.
func Sectors(bytes int) (int, error) {
	sectors := bytes / api.Sector
	if bytes%api.Sector != 0 || !isSize(sectors) {
		return 0, ErrSize
	}
	return sectors, nil
}

// Region tells where a region of a disk of so many sectors begins and ends, in
// bytes.
func Region(sectors int, region uint8) (begin, end int) {
	half := (sectors - heads) / 2 * api.Sector
	begin = heads*api.Sector + int(region)*half
	return begin, begin + half
}

// TheHead tells what the one of the two heads that holds tells.
func TheHead(disk string) (Place, error) {
	var best Place // its generation, 0, is no head's
	for i := range heads {
		place, ok := readHead(disk[i*api.Sector : (i+1)*api.Sector])
		if ok && place.Generation > best.Generation {
			best = place
			best.Sector = i
		}
	}
	if best.Generation == 0 {
		return Place{}, ErrHead
	}
	return best, nil
}

func readHead(sector string) (Place, bool) {
	r := octets.NewReader(strings.TrimPrefix(sector, mark))
	place := Place{Generation: r.Four(), Region: r.One()}
	return place, place.Region <= 1 && sector == Head(place.Generation, place.Region)
}

// ReadRecord reads the record of this generation and number with which a text
// begins. It answers the record's payload, and how many bytes the record has.
func ReadRecord(text string, generation uint32, number uint16) (string, int, error) {
	r := octets.NewReader(text)
	end := front + int(r.Two())
	if end > len(text) {
		return "", 0, ErrRecord
	}
	payload := text[front:end]
	record := Record(generation, number, payload)
	if !strings.HasPrefix(text, record) {
		return "", 0, ErrRecord
	}
	return payload, len(record), nil
}
