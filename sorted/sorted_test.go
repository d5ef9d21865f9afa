package sorted

import (
	"slices"
	"testing"

	"purse/api"
)

// putAll lays the coins into a list in every order that there is of them.
func putAll(t *testing.T, c Coins, ahead []api.Coin, left []api.Coin, want []api.Coin) {
	t.Helper()
	if len(left) == 0 {
		for _, coin := range ahead {
			c.Put(coin)
		}
		if !slices.Equal(c.List, want) {
			t.Errorf("%v came to %v, want %v", ahead, c.List, want)
		}
	}
	for i, coin := range left {
		putAll(t, c, append(slices.Clone(ahead), coin), slices.Delete(slices.Clone(left), i, i+1), want)
	}
}

func TestByIdP9(t *testing.T) {
	want := []api.Coin{{Id: 0, At: 7, Value: 20}, {Id: 3, At: 0, Value: 10}, {Id: 3, At: 1, Value: 30}, {Id: 3, At: 5, Value: 20}, {Id: 99990, At: 0, Value: 99}}
	putAll(t, Coins{}, nil, want, want)
}

func TestGreatestFirstP10(t *testing.T) {
	want := []api.Coin{{Id: 9, At: 0, Value: 99}, {Id: 0, At: 7, Value: 20}, {Id: 3, At: 5, Value: 20}, {Id: 3, At: 6, Value: 20}, {Id: 2, At: 0, Value: 10}}
	putAll(t, Coins{GreatestFirst: true}, nil, want, want)
}
