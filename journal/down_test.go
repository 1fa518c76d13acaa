package journal

import (
	"errors"
	"testing"

	"doorkeeper/drive"
	"doorkeeper/layout"
)

// unmoved tells whether the journal stands where it stood, and the power is gone.
func unmoved(t *testing.T, what string, j *Journal, before Journal, w *watched, err error) {
	t.Helper()
	if !errors.Is(err, drive.ErrDown) || !w.IsDown() {
		t.Errorf("%s: %v, and that the power is gone is %v", what, err, w.IsDown())
	}
	if *j != before {
		t.Errorf("%s: the journal has gone on: %v, want %v", what, *j, before)
	}
}

// The record is under way, and never on the disk, whichever step it was.
func TestAppendAsThePowerGoes(t *testing.T) {
	for at, steps := range map[int][]string{1: {put(75, 18)}, 2: {put(75, 18), "flush"}} {
		j, _, w := watch(t, diskOf(none))
		w.steps = nil
		before := *j
		w.Arm(at)
		unmoved(t, "P6: Append as the power goes", j, before, w, j.Append(login))
		w.did(t, "P6: Append as the power goes", steps...)
		if got := w.Left(0, -1, 0); got != diskOf(none) {
			t.Errorf("P13: at step %d, none kept, the disk is %q", at, got)
		}
		if got := w.Left(1, -1, 0); got != diskOf(none+layout.Record(3, 1, login.Payload())) {
			t.Errorf("P13: at step %d, all kept, the disk is %q", at, got)
		}
	}
	j, _, w := watch(t, diskOf(none))
	w.Arm(3)
	if err := j.Append(login); err != nil || w.IsDown() {
		t.Errorf("P6: Append ahead of that: %v", err)
	}
	if err := j.Append(login); !errors.Is(err, drive.ErrDown) {
		t.Errorf("P6: Append as the power goes: %v", err)
	}
}

// Behind the step at which the power goes there is none.
func TestCompactAsThePowerGoes(t *testing.T) {
	all := []string{put(224, 160), "flush", put(32, 32), "flush"}
	for at := 1; at <= 8; at++ {
		j, s, w := watch(t, diskOf(none))
		w.steps = nil
		before := *j
		w.Arm(at)
		unmoved(t, "P11: Compact as the power goes", j, before, w, j.Compact(s))
		w.did(t, "P11: Compact as the power goes", all[:max(1, at-4)]...)
	}
	j, s, w := watch(t, diskOf(none))
	w.Arm(9)
	if err := j.Compact(s); err != nil || w.IsDown() {
		t.Errorf("P11: Compact ahead of that: %v", err)
	}
	if err := j.Append(login); !errors.Is(err, drive.ErrDown) {
		t.Errorf("P11: a change as the power goes: %v", err)
	}
}

// That there is no room is told ahead of any step.
func TestWithoutRoomThePowerStays(t *testing.T) {
	j, s, w := watch(t, diskOf(none))
	for _, change := range crowd("12345") {
		s.Do(change)
	}
	w.Arm(1)
	j.number = 65536
	if err := j.Append(login); !errors.Is(err, ErrFull) {
		t.Errorf("P6: with number 65536: %v", err)
	}
	if err := j.Compact(s); !errors.Is(err, ErrFull) {
		t.Errorf("P11: without room: %v", err)
	}
	j.head.Generation = 1000000000
	if err := j.Compact(s); !errors.Is(err, ErrFull) {
		t.Errorf("P11: without a generation: %v", err)
	}
	if w.IsDown() {
		t.Error("P12: where nothing is written the power goes")
	}
}
