package mark

import (
	"testing"

	"purse/api"
)

func TestIs(t *testing.T) {
	for _, x := range []int{0, 1, api.Base - 1} {
		if !Is(x) {
			t.Errorf("%d is a mark", x)
		}
	}
	for _, x := range []int{-1, api.Base, -1 << 63, 1<<63 - 1} {
		if Is(x) {
			t.Errorf("%d is no mark", x)
		}
	}
}

func TestAreAll(t *testing.T) {
	for _, list := range [][]int{nil, {}, {0}, {api.Base - 1, 0, 5}} {
		if !AreAll(list) {
			t.Errorf("%v are marks", list)
		}
	}
	for _, list := range [][]int{{-1}, {api.Base}, {0, 0, -1}, {api.Base, 0, 0}, {0, api.Base, 0}} {
		if AreAll(list) {
			t.Errorf("%v are not all marks", list)
		}
	}
}

func TestMix(t *testing.T) {
	for _, c := range []struct{ h, x, want int }{
		{0, 0, 0}, {1, 0, 1009}, {1, 5, 1014}, {0, api.Base, 0}, {100, 0, 909}, {99, 99, 99990}, {99, 100, 0},
		{api.Base - 1, 0, api.Base - 1009}, {0, 1 << 40, 1099511627776 % 99991},
	} {
		if x := Mix(c.h, c.x); x != c.want {
			t.Errorf("Mix(%d, %d) = %d, want %d", c.h, c.x, x, c.want)
		}
	}
}

func TestTurn(t *testing.T) {
	for _, c := range []struct{ x, times, want int }{
		{0, 0, 0}, {0, 1, 7}, {0, 2, 56}, {0, 3, 3143}, {5, 0, 5}, {5, 1, 32}, {api.Base - 1, 1, 8}, {api.Base - 1, 0, api.Base - 1}, {5, -1, 5},
	} {
		if x := TurnTimes(c.x, c.times); x != c.want {
			t.Errorf("TurnTimes(%d, %d) = %d, want %d", c.x, c.times, x, c.want)
		}
	}
	if x := Turn(317); x != (317*317+7)%99991 {
		t.Errorf("Turn(317) = %d", x)
	}
}
