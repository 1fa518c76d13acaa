package sessions

import (
	"errors"

	"doorkeeper/api"
	"doorkeeper/octets"
)

// ErrUnfit says that bytes are no change, or no snapshot.
var ErrUnfit = errors.New("sessions: unfit")

// IsUser tells whether there can be such a user.
func IsUser(user int) bool { return user >= 1 && user <= api.MaxUser }

// IsTime tells whether there can be such a time.
func IsTime(time int) bool { return time >= 0 && time <= api.MaxTime }

// IsName tells whether a value can have such a name.
func IsName(name string) bool { return name != "" && len(name) <= api.MaxText }

// IsText tells whether a value can be such a text.
func IsText(text string) bool { return len(text) <= api.MaxText }

func isID(id int) bool { return id >= 0 && id < api.IDs }

// reader reads what stands on a disk, and remembers whether anything of it
// was out of bounds.
type reader struct {
	octets.Reader
	outside bool
}

func newReader(payload string) reader {
	return reader{Reader: octets.NewReader(payload)}
}

func (r *reader) must(ok bool) { r.outside = r.outside || !ok }

func (r *reader) isFit() bool { return r.Whole() && !r.outside }

func (r *reader) id() int {
	id := int(r.Two())
	r.must(isID(id))
	return id
}

func (r *reader) user() int {
	user := int(r.One())
	r.must(IsUser(user))
	return user
}

// time is within the bounds as an int of 32 bits, too: what is greater than
// these have room for comes out below nought.
func (r *reader) time() int {
	time := int(r.Four())
	r.must(IsTime(time))
	return time
}

func (r *reader) name() string {
	name := r.Text(int(r.One()))
	r.must(IsName(name))
	return name
}

func (r *reader) text() string {
	text := r.Text(int(r.One()))
	r.must(IsText(text))
	return text
}

// count reads how many parts follow. It answers at most most, for there is
// nothing to be read behind more.
func (r *reader) count(most int) int {
	count := int(r.One())
	r.must(count <= most)
	return min(count, most)
}
