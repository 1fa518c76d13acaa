package sessions

import (
	"maps"
	"slices"
	"strings"

	"doorkeeper/api"
	"doorkeeper/octets"
)

// Snapshot is the payload that tells all sessions.
func (s *State) Snapshot() string {
	var text strings.Builder
	text.WriteString(octets.One(uint8(len(s.live))))
	for _, id := range slices.Sorted(maps.Keys(s.live)) {
		text.WriteString(s.live[id].payload())
	}
	return text.String()
}

func (s *Session) payload() string {
	text := octets.Two(uint16(s.ID)) + octets.One(uint8(s.user))
	text += octets.Four(uint32(s.created)) + octets.Four(uint32(s.used))
	text += octets.One(uint8(len(s.values)))
	for _, value := range s.values {
		text += counted(value.name) + counted(value.text)
	}
	return text
}

// ReadSnapshot reads the payload that tells all sessions.
func ReadSnapshot(payload string) (*State, error) {
	r := newReader(payload)
	s := &State{live: map[int]*Session{}}
	last := -1
	for range r.count(api.MaxSessions) {
		session := r.session()
		r.must(session.ID > last)
		last = session.ID
		s.live[session.ID] = session
	}
	if !r.isFit() {
		return nil, ErrUnfit
	}
	return s, nil
}

func (r *reader) session() *Session {
	session := &Session{ID: r.id(), user: r.user(), created: r.time(), used: r.time()}
	last := ""
	for range r.count(api.MaxValues) {
		name, text := r.name(), r.text()
		r.must(name > last)
		last = name
		session.put(name, text)
	}
	return session
}
