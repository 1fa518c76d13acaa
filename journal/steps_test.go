package journal

import (
	"errors"
	"slices"
	"strconv"
	"strings"
	"testing"

	"doorkeeper/drive"
	"doorkeeper/layout"
	"doorkeeper/sessions"
)

// watched is a drive that remembers what it was asked to do.
type watched struct {
	*drive.Drive
	steps []string
}

func (w *watched) Clear(begin, end int) {
	w.steps = append(w.steps, "clear "+strconv.Itoa(begin)+" to "+strconv.Itoa(end))
	w.Drive.Clear(begin, end)
}

func (w *watched) Put(begin int, text string) error {
	w.steps = append(w.steps, put(begin, len(text)))
	return w.Drive.Put(begin, text)
}

func (w *watched) Flush() error {
	w.steps = append(w.steps, "flush")
	return w.Drive.Flush()
}

func put(begin, bytes int) string { return "put " + strconv.Itoa(bytes) + " at " + strconv.Itoa(begin) }

// did tells whether just these steps came since it was asked last.
func (w *watched) did(t *testing.T, what string, want ...string) {
	t.Helper()
	if !slices.Equal(w.steps, want) {
		t.Errorf("%s: the steps are %q, want %q", what, w.steps, want)
	}
	w.steps = nil
}

func watch(t *testing.T, disk string) (*Journal, *sessions.State, *watched) {
	t.Helper()
	d, err := drive.New(disk)
	if err != nil {
		t.Fatal(err)
	}
	w := &watched{Drive: d}
	j, s, err := Open(w)
	if err != nil {
		t.Fatal(err)
	}
	return j, s, w
}

// Open writes nothing: its noughts stand on the disk at once.
func TestStepsOfOpen(t *testing.T) {
	_, _, w := watch(t, diskOf(none+strings.Repeat("x", 99)))
	w.did(t, "P5", "clear 75 to 224")
}

// Each change: its record and no more, and then a flush.
func TestStepsOfAppend(t *testing.T) {
	j, _, w := watch(t, diskOf(none))
	w.did(t, "P5", "clear 75 to 224")
	for i := range 8 {
		if err := j.Append(login); err != nil {
			t.Fatalf("P6: %v", err)
		}
		w.did(t, "P6", put(75+18*i, 18), "flush")
	}
	if err := j.Append(login); !errors.Is(err, ErrFull) {
		t.Errorf("P6: without room: %v", err)
	}
	w.did(t, "P6: without room")
}

// The whole region and a flush, and only then the head and a flush.
func TestStepsOfCompact(t *testing.T) {
	for _, c := range []struct {
		what, disk   string
		region, head int
	}{
		{"to region 1, sector 1", diskOf(none), 224, 32},
		{"to region 1, sector 0", fill("", 32) + layout.Head(3, 0) + fill(none, 320), 224, 0},
		{"to region 0, sector 1", layout.Head(3, 1) + fill("", 192) + fill(none, 160), 64, 32},
		{"to region 0, sector 0", fill("", 32) + layout.Head(3, 1) + fill("", 160) + fill(none, 160), 64, 0},
	} {
		j, s, w := watch(t, c.disk)
		w.steps = nil
		if err := j.Compact(s); err != nil {
			t.Fatalf("P11: %s: %v", c.what, err)
		}
		w.did(t, "P11: "+c.what, put(c.region, 160), "flush", put(c.head, 32), "flush")
		if err := j.Append(login); err != nil {
			t.Fatalf("P11: %s: %v", c.what, err)
		}
		w.did(t, "P11: behind it "+c.what, put(c.region+11, 18), "flush")
	}
}

func TestStepsOfCompactWithoutRoom(t *testing.T) {
	j, s, w := watch(t, fill(layout.Head(1000000000, 0), 64)+fill(layout.Record(1000000000, 0, "\x00"), 320))
	w.steps = nil
	if err := j.Compact(s); !errors.Is(err, ErrFull) {
		t.Errorf("P11: without a generation: %v", err)
	}
	w.did(t, "P11: without a generation")
	j, s, w = watch(t, diskOf(none))
	w.steps = nil
	for _, change := range crowd("12345") {
		s.Do(change)
	}
	if err := j.Compact(s); !errors.Is(err, ErrFull) {
		t.Errorf("P11: without room: %v", err)
	}
	w.did(t, "P11: without room")
}
