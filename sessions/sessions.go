// Package sessions has all that are live, and what changes do to them.
package sessions

import (
	"slices"
	"strings"

	"doorkeeper/api"
)

// Session is a session that is live.
type Session struct {
	ID      int
	user    int
	created int
	used    int
	values  []value // by rising names, as snapshots tell them
}

type value struct{ name, text string }

// IsOver tells whether a session has ended by itself at a time.
func (s Session) IsOver(now, idle, absolute int) bool {
	return now-s.used >= idle || now-s.created >= absolute
}

// Value is what is set under a name.
func (s Session) Value(name string) (string, bool) {
	at, found := s.find(name)
	if !found {
		return "", false
	}
	return s.values[at].text, true
}

// HasRoomFor tells whether a value can be set under a name.
func (s Session) HasRoomFor(name string) bool {
	_, found := s.find(name)
	return found || len(s.values) < api.MaxValues
}

func (s Session) find(name string) (int, bool) {
	return slices.BinarySearchFunc(s.values, name, func(v value, name string) int {
		return strings.Compare(v.name, name)
	})
}

// put keeps copies: what came in may be a piece of something long.
func (s *Session) put(name, text string) {
	at, found := s.find(name)
	if !found {
		s.values = slices.Insert(s.values, at, value{name: strings.Clone(name)})
	}
	s.values[at].text = strings.Clone(text)
}

// State is all sessions that are live.
type State struct{ live map[int]*Session }

// Live tells how many there are.
func (s *State) Live() int { return len(s.live) }

// Find tells of the session that has a number.
func (s *State) Find(id int) (Session, bool) {
	session, found := s.live[id]
	if !found {
		return Session{}, false
	}
	return *session, true
}

// Of tells how many a user has.
func (s *State) Of(user int) int {
	count := 0
	for _, session := range s.live {
		if session.user == user {
			count++
		}
	}
	return count
}
