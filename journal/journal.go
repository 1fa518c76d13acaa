// Package journal keeps the records of changes on a drive.
package journal

import (
	"errors"
	"math"

	"doorkeeper/api"
	"doorkeeper/layout"
	"doorkeeper/sessions"
)

// ErrFull says that there is no room for a record more, or no generation.
var ErrFull = errors.New("journal: no room")

const lastGeneration = 1000000000

// Drive is what a journal asks of a drive. It is an interface so that a test can
// watch in which row the steps come: on that hangs what a loss of power leaves.
type Drive interface {
	Sectors() int
	Stable() string
	Clear(begin, end int)
	Put(begin int, text string) error
	Flush() error
}

// Journal is the region in use of a drive.
type Journal struct {
	drive  Drive
	head   layout.Place // that made it the one in use
	number int          // of the next record
	next   int          // where that is to begin
	end    int          // of the region
}

// Open reads the sessions that a drive tells of, and makes noughts of what
// stands behind.
func Open(d Drive) (*Journal, *sessions.State, error) {
	disk := d.Stable()
	j, err := find(d, disk)
	if err != nil {
		return nil, nil, err
	}
	state, err := j.readSnapshot(disk)
	if err != nil {
		return nil, nil, err
	}
	for j.readChange(disk, state) {
	}
	d.Clear(j.next, j.end)
	return j, state, nil
}

func find(d Drive, disk string) (*Journal, error) {
	head, err := layout.TheHead(disk)
	if err != nil {
		return nil, err
	}
	return begin(d, head), nil
}

// begin is the journal that begins in a head's region.
func begin(d Drive, head layout.Place) *Journal {
	next, end := layout.Region(d.Sectors(), head.Region)
	return &Journal{drive: d, head: head, next: next, end: end}
}

func (j *Journal) readSnapshot(disk string) (*sessions.State, error) {
	payload, bytes, err := j.read(disk)
	if err != nil {
		return nil, err
	}
	state, err := sessions.ReadSnapshot(payload)
	if err != nil {
		return nil, err
	}
	j.pass(bytes)
	return state, nil
}

// readChange tells whether a record with a fit change came next.
func (j *Journal) readChange(disk string, state *sessions.State) bool {
	payload, bytes, err := j.read(disk)
	if err != nil {
		return false
	}
	change, err := sessions.ReadChange(payload)
	if err != nil || !state.Allows(change) {
		return false
	}
	state.Do(change)
	j.pass(bytes)
	return true
}

func (j *Journal) read(disk string) (string, int, error) {
	return layout.ReadRecord(disk[j.next:j.end], j.head.Generation, uint16(j.number))
}

func (j *Journal) pass(bytes int) {
	j.next += bytes
	j.number++
}

// Append writes a change behind the last one. Its error is ErrFull, or what the
// drive tells: then the change is not the last one.
func (j *Journal) Append(change sessions.Change) error {
	if j.number > math.MaxUint16 {
		return ErrFull
	}
	record := j.record(change.Payload())
	if len(record) > j.room() {
		return ErrFull
	}
	if err := j.store(j.next, record); err != nil {
		return err
	}
	j.pass(len(record))
	return nil
}

// store writes a text, and answers when it stands on the disk.
func (j *Journal) store(begin int, text string) error {
	if err := j.drive.Put(begin, text); err != nil {
		return err
	}
	return j.drive.Flush()
}

func (j *Journal) record(payload string) string {
	return layout.Record(j.head.Generation, uint16(j.number), payload)
}

func (j *Journal) room() int { return j.end - j.next }

// Compact begins the other region with a snapshot of all sessions, and goes on
// there. Its head comes last: what a head tells of must stand on the disk. Its
// error is ErrFull, or what the drive tells.
func (j *Journal) Compact(state *sessions.State) error {
	if j.head.Generation >= lastGeneration {
		return ErrFull
	}
	other := begin(j.drive, j.head.Next())
	record := other.record(state.Snapshot())
	if len(record) > other.room() {
		return ErrFull
	}
	if err := j.store(other.next, layout.Fill(record, other.room())); err != nil {
		return err
	}
	head := layout.Head(other.head.Generation, other.head.Region)
	if err := j.store(other.head.Sector*api.Sector, head); err != nil {
		return err
	}
	other.pass(len(record))
	*j = *other
	return nil
}
