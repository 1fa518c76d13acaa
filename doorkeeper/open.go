package doorkeeper

import (
	"strings"

	"doorkeeper/api"
	"doorkeeper/drive"
	"doorkeeper/journal"
	"doorkeeper/sessions"
)

const maxSecret = 16

// open is Open of a configuration that may be.
func open(disk string, c api.Config) (*Keeper, error) {
	d, err := drive.New(disk)
	if err != nil {
		return nil, err
	}
	j, state, err := journal.Open(d)
	if err != nil {
		return nil, err
	}
	return &Keeper{
		drive: d, journal: j, sessions: state, numbers: draw{c.Seed},
		secret: strings.Clone(c.Secret), idle: c.Idle, absolute: c.Absolute, now: c.Now,
	}, nil
}

func mayBe(c api.Config) bool {
	return len(c.Secret) >= 1 && len(c.Secret) <= maxSecret &&
		c.Seed >= 0 && c.Seed < modulus &&
		isSpan(c.Idle) && isSpan(c.Absolute) && sessions.IsTime(c.Now)
}

func isSpan(n int) bool { return n >= 1 && sessions.IsTime(n) }
