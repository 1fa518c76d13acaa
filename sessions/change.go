package sessions

import (
	"maps"

	"doorkeeper/api"
	"doorkeeper/octets"
)

// Kind is the kind of a change, by the letter that stands on the disk.
type Kind byte

const (
	Begun      Kind = 'L' // a login
	Used       Kind = 'T'
	Renumbered Kind = 'R' // and used
	ValueSet   Kind = 'S' // and used
	Ended      Kind = 'X'
	AllEnded   Kind = 'U' // all of a user
)

// Change is what is done to one session, or to all of a user. A kind has no
// use for some of the fields.
type Change struct {
	Kind       Kind
	ID, NewID  int
	User, Time int
	Name, Text string
}

// Payload is a change as it stands in a record. It must be within the bounds.
func (c Change) Payload() string {
	kind, id := octets.One(byte(c.Kind)), octets.Two(uint16(c.ID))
	user, time := octets.One(uint8(c.User)), octets.Four(uint32(c.Time))
	switch c.Kind {
	case Begun:
		return kind + id + user + time
	case Used:
		return kind + id + time
	case Renumbered:
		return kind + id + octets.Two(uint16(c.NewID)) + time
	case ValueSet:
		return kind + id + counted(c.Name) + counted(c.Text) + time
	case Ended:
		return kind + id
	default:
		return kind + user
	}
}

func counted(text string) string { return octets.One(uint8(len(text))) + text }

// ReadChange reads a payload. That a change has just its bytes and is within
// the bounds is seen to here; Allows tells the rest of what makes it fit.
func ReadChange(payload string) (Change, error) {
	r := newReader(payload)
	c := Change{Kind: Kind(r.One())}
	switch c.Kind {
	case Begun:
		c.ID, c.User, c.Time = r.id(), r.user(), r.time()
	case Used:
		c.ID, c.Time = r.id(), r.time()
	case Renumbered:
		c.ID, c.NewID, c.Time = r.id(), r.id(), r.time()
	case ValueSet:
		c.ID, c.Name, c.Text, c.Time = r.id(), r.name(), r.text(), r.time()
	case Ended:
		c.ID = r.id()
	case AllEnded:
		c.User = r.user()
	default:
		return Change{}, ErrUnfit
	}
	if !r.isFit() {
		return Change{}, ErrUnfit
	}
	return c, nil
}

// Allows tells whether a change that is within the bounds can be made.
func (s *State) Allows(c Change) bool {
	session, found := s.Find(c.ID)
	switch c.Kind {
	case Begun:
		return !found && s.Live() < api.MaxSessions
	case Renumbered:
		_, taken := s.Find(c.NewID)
		return found && !taken
	case ValueSet:
		return found && session.HasRoomFor(c.Name)
	case AllEnded:
		return s.Of(c.User) > 0
	default:
		return found
	}
}

// Do makes a change that is allowed.
func (s *State) Do(c Change) {
	session := s.live[c.ID]
	switch c.Kind {
	case Begun:
		s.live[c.ID] = &Session{ID: c.ID, user: c.User, created: c.Time, used: c.Time}
	case ValueSet:
		session.put(c.Name, c.Text)
		fallthrough
	case Used:
		session.used = c.Time
	case Renumbered: // goes on under its new number, and ends under the old one
		goesOn := *session
		goesOn.ID, goesOn.used = c.NewID, c.Time
		s.live[c.NewID] = &goesOn
		fallthrough
	case Ended:
		delete(s.live, c.ID)
	case AllEnded:
		maps.DeleteFunc(s.live, func(_ int, session *Session) bool { return session.user == c.User })
	}
}
