package watch

import (
	"slices"
	"testing"

	"purse/api"
	"purse/chain"
	"purse/key"
)

func pay(t *testing.T, c *chain.Chain, tag int, seed int, branch int, indices ...int) {
	t.Helper()
	x := api.Tx{Tag: tag}
	for _, i := range indices {
		to, _ := key.Address(seed, branch, i)
		x.Outs = append(x.Outs, api.Out{To: to, Value: 10 + i})
	}
	if e, n := c.Connect([]api.Tx{x}); e != api.OK || n != 0 {
		t.Fatalf("Connect(%v) = %d, %d", x, e, n)
	}
}

func TestWindowP8(t *testing.T) {
	var c chain.Chain
	pay(t, &c, 1, 0, api.Receive, 5, 11)
	pay(t, &c, 2, 0, api.Receive, 8)
	for gap, want := range map[int]int{1: 1, 2: 2, 3: 3, 5: 5, 6: 18, 20: 32} {
		if w := Window(&c, 0, gap, api.Receive); w != want {
			t.Errorf("gap %d: window %d, want %d", gap, w, want)
		}
		if w := Window(&c, 0, gap, api.Change); w != gap {
			t.Errorf("gap %d: window of the other branch %d", gap, w)
		}
	}
}

// No gap of a purse is like these; the answer hangs on nothing but that it comes.
func TestWindowEndsP1(t *testing.T) {
	var c chain.Chain
	pay(t, &c, 1, 0, api.Receive, 0, 99)
	for _, gap := range []int{-1 << 63, -1, 0, 99, 100, 101, 1<<63 - 1} {
		if w := Window(&c, 0, gap, api.Receive); w > api.MaxKeys {
			t.Errorf("gap %d: window %d", gap, w)
		}
	}
}

func TestKeysP8(t *testing.T) {
	var c chain.Chain
	pay(t, &c, 1, 0, api.Change, 0)
	want := []Key{{0, 0, 93131}, {0, 1, 46018}, {1, 0, 25868}, {1, 1, 0}, {1, 2, 0}}
	for i := 3; i < 5; i++ {
		want[i].Address, _ = key.Address(0, api.Change, i-2)
	}
	if l := Keys(&c, 0, 2); !slices.Equal(l, want) {
		t.Errorf("keys %v, want %v", l, want)
	}
}

func TestCoinsP9(t *testing.T) {
	var c chain.Chain
	for tag := range 6 {
		pay(t, &c, tag, 0, tag%2, 2, 0, 1, 50)
	}
	l := Coins(&c, 0, 3)
	if len(l) != 18 {
		t.Errorf("%d coins, want 18", len(l))
	}
	for i, coin := range l {
		to, _ := key.Address(0, coin.Branch, coin.Index)
		if coin.To != to || coin.Value != 10+coin.Index {
			t.Errorf("%v is not the coin of its key", coin)
		}
		if i > 0 && (l[i-1].Id > coin.Id || (l[i-1].Id == coin.Id && l[i-1].At >= coin.At)) {
			t.Errorf("%v stands ahead of %v", l[i-1], coin)
		}
	}
}

func TestUnpaidP10(t *testing.T) {
	var c chain.Chain
	pay(t, &c, 1, 0, api.Change, 0, 2, 3)
	pay(t, &c, 2, 0, api.Receive, 1, 4)
	for _, x := range []struct{ gap, from, index int }{
		{1, 0, 1}, {1, 1, 1}, {1, 2, -1}, {2, 0, 1}, {2, 1, 1}, {2, 2, 4}, {2, 4, 4}, {2, 5, 5}, {2, 6, -1}, {2, 100, -1}, {2, 1<<63 - 1, -1}, {2, -1 << 63, 1},
	} {
		k, found := Unpaid(&c, 0, x.gap, x.from)
		to, _ := key.Address(0, api.Change, x.index)
		want := Key{api.Change, x.index, to}
		if x.index < 0 {
			want = Key{}
		}
		if found != (x.index >= 0) || k != want {
			t.Errorf("gap %d, from %d: %v, %t, want %v", x.gap, x.from, k, found, want)
		}
	}
}
