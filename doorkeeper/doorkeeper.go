// Package doorkeeper: a keeper of sessions on a disk of sectors: see DOC.md.
package doorkeeper

import (
	"doorkeeper/api"
	"doorkeeper/drive"
	"doorkeeper/journal"
	"doorkeeper/layout"
	"doorkeeper/passes"
	"doorkeeper/sessions"
)

// Keeper keeps sessions.
type Keeper struct {
	drive    *drive.Drive
	journal  *journal.Journal
	sessions *sessions.State
	numbers  draw
	secret   string
	idle     int
	absolute int
	now      int
}

// Pass makes the pass of a session (P3).
func Pass(secret string, id int) (string, api.Errno) {
	pass, err := passes.Make(secret, id)
	if err != nil {
		return "", api.ErrArg
	}
	return pass, api.OK
}

// Format makes an empty disk (P4).
func Format(sectors int) (string, api.Errno) {
	disk, err := layout.Blank(sectors)
	if err != nil {
		return "", api.ErrArg
	}
	return disk, api.OK
}

// Open opens a disk (P5).
func Open(disk string, c api.Config) (*Keeper, api.Errno) {
	if !mayBe(c) {
		return nil, api.ErrConfig
	}
	k, err := open(disk, c)
	if err != nil {
		return nil, api.ErrDisk
	}
	return k, api.OK
}

// Login begins a session (P7).
func (k *Keeper) Login(user int) (string, api.Errno) {
	if k.drive.IsDown() {
		return "", api.ErrDown
	}
	if !sessions.IsUser(user) {
		return "", api.ErrArg
	}
	if k.sessions.Live() >= api.MaxSessions {
		return "", api.ErrLimit
	}
	id, e := k.drawFree()
	if e != api.OK {
		return "", e
	}
	if e := k.change(sessions.Change{Kind: sessions.Begun, ID: id, User: user}); e != api.OK {
		return "", e
	}
	return Pass(k.secret, id)
}

// Touch uses one (P8).
func (k *Keeper) Touch(pass string) api.Errno {
	session, e := k.look(pass)
	if e != api.OK {
		return e
	}
	return k.change(sessions.Change{Kind: sessions.Used, ID: session.ID})
}

// Rotate gives one another pass (P8).
func (k *Keeper) Rotate(pass string) (string, api.Errno) {
	session, e := k.look(pass)
	if e != api.OK {
		return "", e
	}
	id, e := k.drawFree()
	if e != api.OK {
		return "", e
	}
	if e := k.change(sessions.Change{Kind: sessions.Renumbered, ID: session.ID, NewID: id}); e != api.OK {
		return "", e
	}
	return Pass(k.secret, id)
}

// Set sets a value (P9).
func (k *Keeper) Set(pass, name, value string) api.Errno {
	if !sessions.IsName(name) || !sessions.IsText(value) {
		return api.ErrArg
	}
	session, e := k.look(pass)
	if e != api.OK {
		return e
	}
	if !session.HasRoomFor(name) {
		return api.ErrLimit
	}
	return k.change(sessions.Change{Kind: sessions.ValueSet, ID: session.ID, Name: name, Text: value})
}

// Get gets a value (P9).
func (k *Keeper) Get(pass, name string) (string, api.Errno) {
	session, e := k.find(pass)
	if e != api.OK {
		return "", e
	}
	value, found := session.Value(name)
	if !found {
		return "", api.ErrNone
	}
	return value, api.OK
}

// Logout ends a session (P10).
func (k *Keeper) Logout(pass string) api.Errno {
	session, e := k.look(pass)
	if e != api.OK {
		return e
	}
	return k.end(session)
}

// LogoutAll ends all of a user (P10).
func (k *Keeper) LogoutAll(user int) (int, api.Errno) {
	if k.drive.IsDown() {
		return 0, api.ErrDown
	}
	if !sessions.IsUser(user) {
		return 0, api.ErrArg
	}
	count := k.sessions.Of(user)
	if count == 0 {
		return 0, api.OK
	}
	if e := k.change(sessions.Change{Kind: sessions.AllEnded, User: user}); e != api.OK {
		return 0, e
	}
	return count, api.OK
}

// Tick lets time go by (P10).
func (k *Keeper) Tick(n int) api.Errno {
	if k.drive.IsDown() {
		return api.ErrDown
	}
	if n < 0 || n > api.MaxTime-k.now {
		return api.ErrArg
	}
	k.now += n
	return api.OK
}

// Live tells how many sessions there are (P10).
func (k *Keeper) Live() (int, api.Errno) {
	if k.drive.IsDown() {
		return 0, api.ErrDown
	}
	return k.sessions.Live(), api.OK
}

// Compact writes all anew (P11).
func (k *Keeper) Compact() api.Errno {
	if k.drive.IsDown() {
		return api.ErrDown
	}
	return errnoOf(k.journal.Compact(k.sessions))
}

// Arm says at which disk step from now on the power goes (P12).
func (k *Keeper) Arm(n int) { k.drive.Arm(n) }

// Left tells what is on the disk, if the power goes now or is gone (P13).
func (k *Keeper) Left(keep, torn, part int) string { return k.drive.Left(keep, torn, part) }
