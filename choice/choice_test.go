package choice

import (
	"slices"
	"testing"

	"purse/api"
)

func coins(values ...int) []api.Coin {
	var list []api.Coin
	for i, v := range values {
		list = append(list, api.Coin{Id: 1 + i, Value: v})
	}
	return list
}

func outs(values ...int) []api.Out {
	var list []api.Out
	for _, v := range values {
		list = append(list, api.Out{To: 5, Value: v})
	}
	return list
}

func valuesOf(list []api.Coin) []int {
	var values []int
	for _, c := range list {
		values = append(values, c.Value)
	}
	return values
}

func TestTargetP10(t *testing.T) {
	for _, c := range []struct{ got, want int }{
		{target(outs(70), 0), 70}, {target(outs(111), 1), 116}, {target(outs(129), 1), 134}, {target(outs(200), 1), 205},
		{target(outs(10, 20), 1000), 7030}, {target(outs(10, 10, 10, 10, 10, 10, 10), 3), 121},
		{slack(0), 9}, {slack(1), 11}, {slack(1000), 2009},
		{worth(api.Coin{Value: 100}, 0), 100}, {worth(api.Coin{Value: 100}, 1), 93}, {worth(api.Coin{Value: 10}, 1000), -6990},
		{change(0, 0), 0}, {change(9, 0), 0}, {change(10, 0), 10}, {change(11, 1), 0}, {change(12, 1), 10}, {change(2009, 1000), 0}, {change(2010, 1000), 10}, {change(1<<40, 0), 1 << 40},
	} {
		if c.got != c.want {
			t.Errorf("%d, want %d", c.got, c.want)
		}
	}
}

func TestChooseP10(t *testing.T) {
	for _, c := range []struct {
		free   []int
		asked  int
		rate   int
		chosen []int
		change int
	}{
		{[]int{30, 100, 40, 60}, 70, 0, []int{40, 30}, 0},
		{[]int{30, 100, 40, 60}, 95, 0, []int{100}, 0},
		{[]int{30, 100, 40, 60}, 111, 1, []int{100, 30}, 0},
		{[]int{30, 100, 40, 60}, 129, 1, []int{100, 60}, 10},
		{[]int{30, 100, 40, 60}, 200, 1, nil, 0},
		{[]int{30, 100, 40, 60}, 231, 0, nil, 0},
		{nil, 10, 0, nil, 0},
		{[]int{70}, 10, 10, nil, 0},
		{[]int{11, 11, 11, 11, 11, 11, 11, 11, 11, 11, 11}, 110, 0, []int{11, 11, 11, 11, 11, 11, 11, 11, 11, 11}, 0},
		{[]int{11, 11, 11, 11, 11, 11, 11, 11, 11, 11, 11}, 111, 0, nil, 0},
	} {
		free := coins(c.free...)
		got, e := Choose(free, outs(c.asked), c.rate)
		want := api.OK
		if c.chosen == nil {
			want = api.ErrFunds
		}
		if e != want || got.Change != c.change || !slices.Equal(valuesOf(got.Coins), c.chosen) {
			t.Errorf("of %v for %d at %d: %v, %d, want %v and %d", c.free, c.asked, c.rate, got, e, c.chosen, c.change)
		}
		if !slices.Equal(free, coins(c.free...)) {
			t.Errorf("%v was handed in, it is %v now", c.free, free)
		}
	}
}

// The whole coin comes out, with its key.
func TestChosenCoinIsWholeP10(t *testing.T) {
	c := api.Coin{Id: 4, At: 3, To: 77, Value: 50, Branch: api.Change, Index: 9}
	got, e := Choose([]api.Coin{c}, outs(50), 0)
	if e != api.OK || !slices.Equal(got.Coins, []api.Coin{c}) {
		t.Errorf("%v, %d, want %v", got, e, c)
	}
}

// Of coins with one value all sets with as many have one sum: the first in order are kept.
func TestTiesP10(t *testing.T) {
	free := coins(20, 20, 20, 20, 20, 20, 20, 20, 20)
	for n := 1; n <= 9; n++ {
		for _, reverse := range []bool{false, true} {
			given := slices.Clone(free)
			if reverse {
				slices.Reverse(given)
			}
			got, e := Choose(given, outs(20*n), 0)
			if e != api.OK || got.Change != 0 || !slices.Equal(got.Coins, free[:n]) {
				t.Errorf("%d coins: %v, %d, want %v", n, got, e, free[:n])
			}
		}
	}
}
