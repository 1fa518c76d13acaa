package drive

import "errors"

// ErrDown says that the power is gone.
var ErrDown = errors.New("drive: the power is gone")

// power goes at a disk step, and does not come again.
type power struct {
	gone  chan struct{} // closed when it goes
	steps int           // until it goes, or 0: it does not
}

func newPower() power { return power{gone: make(chan struct{})} }

// Arm lets the power go at the n-th disk step from now on. It does not go if
// there is none such, whatever was armed ahead.
func (p *power) Arm(n int) {
	if p.IsDown() {
		return
	}
	p.steps = max(n, 0)
}

// IsDown tells whether the power is gone.
func (p *power) IsDown() bool {
	select {
	case <-p.gone:
		return true
	default:
		return false
	}
}

// step counts a disk step. It tells whether the power goes at it, or was gone.
func (p *power) step() error {
	if p.steps > 0 {
		p.steps--
		if p.steps == 0 {
			close(p.gone)
		}
	}
	if p.IsDown() {
		return ErrDown
	}
	return nil
}
