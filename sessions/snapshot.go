package sessions

import "doorkeeper/api"

// ReadSnapshot reads the payload that tells all sessions.
func ReadSnapshot(payload string) (*State, error) {
	r := newReader(payload)
	s := &State{live: map[int]*Session{}}
	last := -1
	for range r.count(api.MaxSessions) {
		session := r.session()
		r.must(session.ID > last)
		last = session.ID
		s.live[session.ID] = session
	}
	if !r.isFit() {
		return nil, ErrUnfit
	}
	return s, nil
}

func (r *reader) session() *Session {
	session := &Session{ID: r.id(), user: r.user(), created: r.time(), used: r.time()}
	last := ""
	for range r.count(api.MaxValues) {
		name, text := r.name(), r.text()
		r.must(name > last)
		last = name
		session.put(name, text)
	}
	return session
}
