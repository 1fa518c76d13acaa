// Package drive is a disk to which sectors are written.
package drive

import (
	"slices"

	"doorkeeper/api"
	"doorkeeper/layout"
)

const lastBit = 62 // of those that tell of a sector under way

// Drive is a disk. A sector that was written is under way until the next
// flush. To write a sector and to flush are the disk steps: when the power is
// gone none of them comes about.
type Drive struct {
	power
	stable   []byte // what stands on the disk, whatever comes
	written  []byte // what was written last, sector for sector
	underWay []int  // sectors, in the row in which they were written
}

// New takes a copy of a disk.
func New(disk string) (*Drive, error) {
	if _, err := layout.Sectors(len(disk)); err != nil {
		return nil, err
	}
	return &Drive{power: newPower(), stable: []byte(disk), written: []byte(disk)}, nil
}

// Stable is what stands on the disk, without what is under way.
func (d *Drive) Stable() string { return string(d.stable) }

// Sectors tells how many the disk has.
func (d *Drive) Sectors() int { return len(d.stable) / api.Sector }

// Clear makes the bytes from begin to end noughts, at once.
func (d *Drive) Clear(begin, end int) {
	clear(d.stable[begin:end])
	clear(d.written[begin:end])
}

// Put writes each sector in which a text lies that begins at a byte of the
// disk, in rising order. The other bytes of these sectors stay as they are.
func (d *Drive) Put(begin int, text string) error {
	for at := begin; at < begin+len(text); {
		sector := at / api.Sector
		end := min((sector+1)*api.Sector, begin+len(text))
		if err := d.write(sector, at, text[at-begin:end-begin]); err != nil {
			return err
		}
		at = end
	}
	return nil
}

// write is a disk step. The sector is under way, too, if the power goes at it.
// One that is under way already keeps its place in the row.
func (d *Drive) write(sector, at int, text string) error {
	if d.IsDown() {
		return ErrDown
	}
	copy(d.written[at:], text)
	if !slices.Contains(d.underWay, sector) {
		d.underWay = append(d.underWay, sector)
	}
	return d.step()
}

// Flush is a disk step: behind it all that was under way is on the disk. It is
// not done if the power goes at it.
func (d *Drive) Flush() error {
	if err := d.step(); err != nil {
		return err
	}
	for _, sector := range d.underWay {
		begin := sector * api.Sector
		copy(d.stable[begin:begin+api.Sector], d.written[begin:])
	}
	d.underWay = d.underWay[:0]
	return nil
}

// Left is the disk if the power goes now, or is gone: of the sectors under way
// the i-th in the row is as it was written if keep has the bit i. The one in the
// place torn has its first part bytes alone from there, whatever keep has.
func (d *Drive) Left(keep, torn, part int) string {
	disk := slices.Clone(d.stable)
	for i, sector := range d.underWay {
		done := 0
		if i == torn {
			done = min(max(part, 0), api.Sector)
		} else if hasBit(keep, i) {
			done = api.Sector
		}
		begin := sector * api.Sector
		copy(disk[begin:begin+done], d.written[begin:])
	}
	return string(disk)
}

// hasBit takes the last bit for all behind it. It asks 64 bits, for an int may
// have 32.
func hasBit(n, i int) bool { return int64(n)>>min(i, lastBit)&1 == 1 }
