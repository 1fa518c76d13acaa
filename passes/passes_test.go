package passes

import (
	"errors"
	"math"
	"strings"
	"testing"
)

func TestMake(t *testing.T) {
	for _, c := range []struct {
		secret string
		id     int
		want   string
	}{
		{"s", 0, "v100041a3"},
		{"s", 4095, "v1fff9edc"},
		{"", 0, "v100076b5"},
		{"secret", 0xabc, "v1abc0669"},
	} {
		if got, err := Make(c.secret, c.id); got != c.want || err != nil {
			t.Errorf("P3: Make(%q, %d) = %q, %v, want %q", c.secret, c.id, got, err, c.want)
		}
	}
}

func TestMakeRefuses(t *testing.T) {
	for _, id := range []int{-1, 4096, math.MaxInt, math.MinInt} {
		if got, err := Make("s", id); got != "" || !errors.Is(err, ErrNumber) {
			t.Errorf("P3: Make(s, %d) = %q, %v", id, got, err)
		}
	}
}

func TestReadOfEachNumber(t *testing.T) {
	for _, secret := range []string{"s", "sixteen bytes !!", "\xff\x00"} {
		for id := range 4096 {
			pass, _ := Make(secret, id)
			if got, err := Read(secret, pass); got != id || err != nil {
				t.Fatalf("P8: Read(%q, %q) = %d, %v, want %d", secret, pass, got, err, id)
			}
		}
	}
}

func TestReadRefuses(t *testing.T) {
	for _, pass := range []string{
		"", "v", "v1", "v100041a", "v100041a30", "v100041a4", "v100141a3", "v200041a3", "V100041a3",
		"v100041A3", "v1FFF9edc", "v1fff9edC", "v1fffdc9e", "v10g041a3", "v1-0041a3", " v10041a3", "v100076b5",
		"\x00\x00\x00\x00\x00\x00\x00\x00\x00", strings.Repeat("v100041a3", 1000),
	} {
		if got, err := Read("s", pass); got != 0 || !errors.Is(err, ErrPass) {
			t.Errorf("P8: Read(s, %.20q) = %d, %v", pass, got, err)
		}
	}
}

// A pass in which any one byte is another is no pass.
func TestReadRefusesEachTouchedByte(t *testing.T) {
	pass, _ := Make("secret", 0xabc)
	for i := range len(pass) {
		for b := range 256 {
			touched := pass[:i] + string([]byte{byte(b)}) + pass[i+1:]
			if _, err := Read("secret", touched); touched != pass && !errors.Is(err, ErrPass) {
				t.Errorf("P8: %q is read as a pass, %v", touched, err)
			}
		}
	}
}
