package doorkeeper

import (
	"errors"

	"doorkeeper/api"
	"doorkeeper/drive"
	"doorkeeper/passes"
	"doorkeeper/sessions"
)

// find looks at a pass, and leaves a session that is over as it is.
func (k *Keeper) find(pass string) (sessions.Session, api.Errno) {
	if k.drive.IsDown() {
		return sessions.Session{}, api.ErrDown
	}
	id, err := passes.Read(k.secret, pass)
	if err != nil {
		return sessions.Session{}, api.ErrPass
	}
	session, found := k.sessions.Find(id)
	if !found {
		return sessions.Session{}, api.ErrNone
	}
	if session.IsOver(k.now, k.idle, k.absolute) {
		return session, api.ErrExpired
	}
	return session, api.OK
}

// look looks at a pass, and ends the session if that is over.
func (k *Keeper) look(pass string) (sessions.Session, api.Errno) {
	session, e := k.find(pass)
	if e != api.ErrExpired {
		return session, e
	}
	if e := k.end(session); e != api.OK {
		return sessions.Session{}, e
	}
	return sessions.Session{}, api.ErrExpired
}

func (k *Keeper) end(session sessions.Session) api.Errno {
	return k.change(sessions.Change{Kind: sessions.Ended, ID: session.ID})
}

// change makes a change that is allowed: on the disk first, for what is not
// there must not have been.
func (k *Keeper) change(c sessions.Change) api.Errno {
	c.Time = k.now
	if err := k.journal.Append(c); err != nil {
		return errnoOf(err)
	}
	k.sessions.Do(c)
	return api.OK
}

// errnoOf tells what came of writing to the disk.
func errnoOf(err error) api.Errno {
	switch {
	case err == nil:
		return api.OK
	case errors.Is(err, drive.ErrDown):
		return api.ErrDown
	default:
		return api.ErrFull
	}
}
