// Package drive is a disk to which sectors are written.
package drive

import (
	"slices"

	"doorkeeper/api"
	"doorkeeper/layout"
)

// Drive is a disk. A sector that was written is under way until the next
// flush.
type Drive struct {
	stable   []byte // what stands on the disk, whatever comes
	written  []byte // what was written last, sector for sector
	underWay []int  // sectors, in the row in which they were written
}

// New takes a copy of a disk.
func New(disk string) (*Drive, error) {
	if _, err := layout.Sectors(len(disk)); err != nil {
		return nil, err
	}
	return &Drive{stable: []byte(disk), written: []byte(disk)}, nil
}

// Stable is what stands on the disk, without what is under way.
func (d *Drive) Stable() string { return string(d.stable) }

// Clear makes the bytes from begin to end noughts, at once.
func (d *Drive) Clear(begin, end int) {
	clear(d.stable[begin:end])
	clear(d.written[begin:end])
}

// Put writes each sector in which a text lies that begins at a byte of the
// disk, in rising order. The other bytes of these sectors stay as they are.
func (d *Drive) Put(begin int, text string) {
	for at := begin; at < begin+len(text); {
		sector := at / api.Sector
		end := min((sector+1)*api.Sector, begin+len(text))
		d.write(sector, at, text[at-begin:end-begin])
		at = end
	}
}

// write is a disk step. A sector that is under way already keeps its place in
// the row.
func (d *Drive) write(sector, at int, text string) {
	copy(d.written[at:], text)
	if !slices.Contains(d.underWay, sector) {
		d.underWay = append(d.underWay, sector)
	}
}

// Flush is a disk step: behind it all that was under way is on the disk.
func (d *Drive) Flush() {
	for _, sector := range d.underWay {
		begin := sector * api.Sector
		copy(d.stable[begin:begin+api.Sector], d.written[begin:])
	}
	d.underWay = d.underWay[:0]
}
