package doorkeeper

import (
	"fmt"
	"math"
	"strings"
	"testing"

	"doorkeeper/api"
)

// The wanted passes were worked out by another program, from the document.
func TestPassOfNumbers(t *testing.T) {
	for _, c := range []struct {
		secret string
		id     int
		want   string
	}{
		{"s", 0, "v100041a3"},
		{"s", 15, "v100f77a3"},
		{"s", 16, "v101048a4"},
		{"s", 255, "v10fff1da"},
		{"s", 256, "v110081b1"},
		{"s", 4095, "v1fff9edc"},
		{"s", 928, "v13a06700"},  // the sum's high byte is nought
		{"s", 1648, "v16700100"}, // the low byte has one digit
		{"", 0, "v100076b5"},
		{"secret", 0xabc, "v1abc0669"},
		{"\x00\xff\x80", 1, "v1001e42b"},
		{"ß€", 74, "v104a6d96"},
		{strings.Repeat("long", 1000), 2748, "v1abcb249"},
	} {
		if got, e := Pass(c.secret, c.id); got != c.want || e != api.OK {
			t.Errorf("P3: Pass(%.20q, %d) = %q, %d, want %q", c.secret, c.id, got, e, c.want)
		}
	}
}

func TestPassOfEachNumber(t *testing.T) {
	for _, secret := range []string{"", "s", "sixteen bytes !!", "\xff\xfe"} {
		for id := range 4096 {
			front := fmt.Sprintf("v1%03x", id)
			sum := plainSum(secret + front)
			want := front + fmt.Sprintf("%02x%02x", sum%256, sum/256)
			if got, e := Pass(secret, id); got != want || e != api.OK {
				t.Fatalf("P3: Pass(%q, %d) = %q, %d, want %q", secret, id, got, e, want)
			}
		}
	}
}

func plainSum(text string) int {
	sum := 1
	for _, b := range []byte(text) {
		sum = (263*sum + int(b) + 1) % 65521
	}
	return sum
}

func TestPassRefusesOtherNumbers(t *testing.T) {
	for _, secret := range []string{"", "s", strings.Repeat("x", 1<<16)} {
		for _, id := range []int{-1, -4096, 4096, 4097, 65536, 1 << 32, 1<<32 + 1, -1 << 32, math.MaxInt, math.MinInt} {
			if got, e := Pass(secret, id); got != "" || e != api.ErrArg {
				t.Errorf("P1, P3: Pass(%.20q, %d) = %q, %d", secret, id, got, e)
			}
		}
	}
}

func TestPassOfLongSecret(t *testing.T) {
	secret := strings.Repeat("\xff", 1<<24)
	front := "v1fff"
	sum := plainSum(secret + front)
	want := front + fmt.Sprintf("%02x%02x", sum%256, sum/256)
	if got, e := Pass(secret, 4095); got != want || e != api.OK {
		t.Errorf("P1, P3: Pass of a long secret = %q, %d, want %q", got, e, want)
	}
}
