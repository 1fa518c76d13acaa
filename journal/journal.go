// Package journal keeps the records of changes on a drive.
package journal

import (
	"errors"
	"math"

	"doorkeeper/drive"
	"doorkeeper/layout"
	"doorkeeper/sessions"
)

// ErrFull says that there is no room for a record more.
var ErrFull = errors.New("journal: the region is full")

// Journal is the region in use of a drive.
type Journal struct {
	drive      *drive.Drive
	generation uint32
	number     int // of the next record
	next       int // where that is to begin
	end        int // of the region
}

// Open reads the sessions that a drive tells of, and makes noughts of what
// stands behind.
func Open(d *drive.Drive) (*Journal, *sessions.State, error) {
	disk := d.Stable()
	j, err := find(d, disk)
	if err != nil {
		return nil, nil, err
	}
	state, err := j.readSnapshot(disk)
	if err != nil {
		return nil, nil, err
	}
	for j.readChange(disk, state) {
	}
	d.Clear(j.next, j.end)
	return j, state, nil
}

func find(d *drive.Drive, disk string) (*Journal, error) {
	sectors, err := layout.Sectors(len(disk))
	if err != nil {
		return nil, err
	}
	head, err := layout.TheHead(disk)
	if err != nil {
		return nil, err
	}
	begin, end := layout.Region(sectors, head.Region)
	return &Journal{drive: d, generation: head.Generation, next: begin, end: end}, nil
}

func (j *Journal) readSnapshot(disk string) (*sessions.State, error) {
	payload, bytes, err := j.read(disk)
	if err != nil {
		return nil, err
	}
	state, err := sessions.ReadSnapshot(payload)
	if err != nil {
		return nil, err
	}
	j.pass(bytes)
	return state, nil
}

// readChange tells whether a record with a fit change came next.
func (j *Journal) readChange(disk string, state *sessions.State) bool {
	payload, bytes, err := j.read(disk)
	if err != nil {
		return false
	}
	change, err := sessions.ReadChange(payload)
	if err != nil || !state.Allows(change) {
		return false
	}
	state.Do(change)
	j.pass(bytes)
	return true
}

func (j *Journal) read(disk string) (string, int, error) {
	return layout.ReadRecord(disk[j.next:j.end], j.generation, uint16(j.number))
}

func (j *Journal) pass(bytes int) {
	j.next += bytes
	j.number++
}

// Append writes a change behind the last one.
func (j *Journal) Append(change sessions.Change) error {
	if j.number > math.MaxUint16 {
		return ErrFull
	}
	record := layout.Record(j.generation, uint16(j.number), change.Payload())
	if len(record) > j.end-j.next {
		return ErrFull
	}
	j.drive.Put(j.next, record)
	j.drive.Flush()
	j.pass(len(record))
	return nil
}
