package passes

import (
	"errors"
	"math"
	"testing"
)

func TestMake(t *testing.T) {
	for _, c := range []struct {
		secret string
		id     int
		want   string
	}{
		{"s", 0, "v100041a3"},
		{"s", 4095, "v1fff9edc"},
		{"", 0, "v100076b5"},
		{"secret", 0xabc, "v1abc0669"},
	} {
		if got, err := Make(c.secret, c.id); got != c.want || err != nil {
			t.Errorf("P3: Make(%q, %d) = %q, %v, want %q", c.secret, c.id, got, err, c.want)
		}
	}
}

func TestMakeRefuses(t *testing.T) {
	for _, id := range []int{-1, 4096, math.MaxInt, math.MinInt} {
		if got, err := Make("s", id); got != "" || !errors.Is(err, ErrNumber) {
			t.Errorf("P3: Make(s, %d) = %q, %v", id, got, err)
		}
	}
}
