package key

import (
	"testing"

	"purse/api"
)

func TestIs(t *testing.T) {
	for _, k := range [][3]int{{0, 0, 0}, {api.Base - 1, 1, api.MaxKeys - 1}, {5, 1, 2}} {
		if !Is(k[0], k[1], k[2]) {
			t.Errorf("%v is a key", k)
		}
	}
	for _, k := range [][3]int{{-1, 0, 0}, {api.Base, 0, 0}, {0, -1, 0}, {0, 2, 0}, {0, 0, -1}, {0, 0, api.MaxKeys}} {
		if Is(k[0], k[1], k[2]) {
			t.Errorf("%v is no key", k)
		}
	}
}

func TestIsSeal(t *testing.T) {
	if !IsSeal([]int{0, 1, 2, 3, api.Base - 1}) {
		t.Error("five marks are a seal")
	}
	for _, list := range [][]int{nil, {}, {0, 1, 2, 3}, {0, 1, 2, 3, 4, 5}, {-1, 1, 2, 3, 4}, {0, 1, 2, 3, api.Base}} {
		if IsSeal(list) {
			t.Errorf("%v is no seal", list)
		}
	}
}

func TestDigits(t *testing.T) {
	for _, c := range []struct {
		id   int
		want [5]int
	}{
		{18216, [5]int{4, 5, 0, 1, 4}},
		{0, [5]int{0, 0, 0, 2, 5}},
		{7, [5]int{0, 0, 7, 1, 6}},
		{64, [5]int{1, 0, 0, 2, 4}},
		{511, [5]int{7, 7, 7, 0, 0}},
		{512, [5]int{0, 0, 0, 2, 5}},
		{99990, [5]int{2, 2, 6, 1, 3}},
	} {
		if d := digits(c.id); d != c.want {
			t.Errorf("digits(%d) = %v, want %v", c.id, d, c.want)
		}
	}
}

// No id's digits may all reach another's: else a seal for the one could be turned on into one for the other.
func TestDigitsCannotBeTurnedOn(t *testing.T) {
	for a := range 512 {
		d := digits(a)
		for j := range d {
			if d[j] < 0 || d[j] > api.Rounds {
				t.Fatalf("digits(%d) = %v: out of 0 to %d", a, d, api.Rounds)
			}
		}
		for b := range 512 {
			e := digits(b)
			if a != b && d[0] <= e[0] && d[1] <= e[1] && d[2] <= e[2] && d[3] <= e[3] && d[4] <= e[4] {
				t.Fatalf("the digits %v of %d reach up to %v of %d", d, a, e, b)
			}
		}
	}
}
