package doorkeeper

import "doorkeeper/api"

const (
	multiplier = 75
	increment  = 74
	modulus    = 65537
)

// draw is where the drawing of numbers stands.
type draw struct{ x int }

func (d *draw) next() int {
	d.x = (multiplier*d.x + increment) % modulus
	return d.x % api.IDs
}

// drawFree draws until a number is none of a live session.
func (k *Keeper) drawFree() (int, api.Errno) {
	for range api.Draws {
		id := k.numbers.next()
		if _, taken := k.sessions.Find(id); !taken {
			return id, api.OK
		}
	}
	return 0, api.ErrLimit
}
