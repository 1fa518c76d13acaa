// Package doorkeeper: a keeper of sessions on a disk of sectors: see DOC.md.
package doorkeeper

import (
	"doorkeeper/api"
	"doorkeeper/layout"
	"doorkeeper/passes"
)

// Keeper keeps sessions.
type Keeper struct{}

// Pass makes the pass of a session (P3).
func Pass(secret string, id int) (string, api.Errno) {
	pass, err := passes.Make(secret, id)
	if err != nil {
		return "", api.ErrArg
	}
	return pass, api.OK
}

// Format makes an empty disk (P4).
func Format(sectors int) (string, api.Errno) {
	disk, err := layout.Blank(sectors)
	if err != nil {
		return "", api.ErrArg
	}
	return disk, api.OK
}

// Open opens a disk (P5).
func Open(disk string, c api.Config) (*Keeper, api.Errno) { return nil, api.OK }

// Login begins a session (P7).
func (k *Keeper) Login(user int) (string, api.Errno) { return "", api.OK }

// Touch uses one (P8).
func (k *Keeper) Touch(pass string) api.Errno { return api.OK }

// Rotate gives one another pass (P8).
func (k *Keeper) Rotate(pass string) (string, api.Errno) { return "", api.OK }

// Set sets a value (P9).
func (k *Keeper) Set(pass, name, value string) api.Errno { return api.OK }

// Get gets a value (P9).
func (k *Keeper) Get(pass, name string) (string, api.Errno) { return "", api.OK }

// Logout ends a session (P10).
func (k *Keeper) Logout(pass string) api.Errno { return api.OK }

// LogoutAll ends all of a user (P10).
func (k *Keeper) LogoutAll(user int) (int, api.Errno) { return 0, api.OK }

// Tick lets time go by (P10).
func (k *Keeper) Tick(n int) api.Errno { return api.OK }

// Live tells how many sessions there are (P10).
func (k *Keeper) Live() (int, api.Errno) { return 0, api.OK }

// Compact writes all anew (P11).
func (k *Keeper) Compact() api.Errno { return api.OK }

// Arm says at which disk step from now on the power goes (P12).
func (k *Keeper) Arm(n int) {}

// Left tells what is on the disk, if the power goes now or is gone (P13).
func (k *Keeper) Left(keep, torn, part int) string { return "" }
