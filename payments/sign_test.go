package payments

import (
	"slices"
	"testing"

	"purse/api"
	"purse/chain"
	"purse/key"
	"purse/tx"
)

// seed has the keys of these tests.
const seed = 5

// minted makes a block of one transaction with an output of 100 to each key, and the coins that it has.
func minted(t *testing.T, tag int, keys ...api.Key) ([]api.Tx, []api.Coin) {
	t.Helper()
	x := api.Tx{Tag: tag}
	for _, k := range keys {
		address, e := key.Address(seed, k.Branch, k.Index)
		if e != api.OK {
			t.Fatalf("there is no key %v", k)
		}
		x.Outs = append(x.Outs, api.Out{To: address, Value: 100})
	}
	var coins []api.Coin
	for at, o := range x.Outs {
		coins = append(coins, api.Coin{Id: tx.Id(x), At: at, To: o.To, Value: o.Value, Branch: keys[at].Branch, Index: keys[at].Index})
	}
	return []api.Tx{x}, coins
}

func signs(t *testing.T, l *List, c *chain.Chain, number int, coins ...api.Coin) {
	t.Helper()
	x, e := l.Sign(c, seed, number)
	if e != api.OK || x.Tag != 7 || !slices.Equal(x.Outs, pay) || len(x.Ins) != len(coins) {
		t.Fatalf("Sign(%d) = %v, %d; its coins are %v", number, x, e, coins)
	}
	for i, in := range x.Ins {
		to, e := key.Open(tx.Id(x), in.Seal)
		if e != api.OK || to != coins[i].To || in.Id != coins[i].Id || in.At != coins[i].At {
			t.Errorf("the input %d is %v, the coin %v", i, in, coins[i])
		}
	}
}

func refuses(t *testing.T, l *List, c *chain.Chain, number int, want api.Errno) {
	t.Helper()
	if x, e := l.Sign(c, seed, number); e != want || x.Tag != 0 || x.Ins != nil || x.Outs != nil {
		t.Errorf("Sign(%d) = %v, %d, want nothing, %d", number, x, e, want)
	}
}

func free(t *testing.T, l *List, coins []api.Coin, want ...bool) {
	t.Helper()
	for i, coin := range coins {
		if l.IsFree(coin) != want[i] {
			t.Errorf("the coin %d is free: %t", i, !want[i])
		}
	}
}

func TestSignP12(t *testing.T) {
	one, two, three := api.Key{Branch: 0, Index: 3}, api.Key{Branch: 1, Index: 3}, api.Key{Branch: 0, Index: 4}
	block, coins := minted(t, 1, one, two, two, three, one)
	var l List
	var c chain.Chain
	adds(t, &l, 0, -1, coins[0], coins[1])
	adds(t, &l, 1, 0, coins[3], coins[2])
	refuses(t, &l, &c, 0, api.ErrGone)
	free(t, &l, coins, false, false, false, false, true)
	if e, _ := c.Connect(block); e != api.OK {
		t.Fatalf("Connect = %d", e)
	}
	refuses(t, &l, &c, -1, api.ErrPaid)
	refuses(t, &l, &c, 2, api.ErrPaid)
	signs(t, &l, &c, 0, coins[0], coins[1])
	free(t, &l, coins, false, false, false, false, false)
	refuses(t, &l, &c, 1, api.ErrUsed)
	c.Disconnect()
	refuses(t, &l, &c, 1, api.ErrGone)
	signs(t, &l, &c, 0, coins[0], coins[1])
	abandons(t, &l, 0, api.OK)
	refuses(t, &l, &c, 0, api.ErrPaid)
	c.Connect(block)
	refuses(t, &l, &c, 1, api.ErrUsed)
	abandons(t, &l, 1, api.OK)
	free(t, &l, coins, false, false, false, true, false)
	adds(t, &l, 2, -1, coins[3])
	signs(t, &l, &c, 2, coins[3])
}

// No more is kept than which keys have sealed, each of them once.
func TestSealedKeysP12(t *testing.T) {
	one, two := api.Key{Branch: 0, Index: 3}, api.Key{Branch: 1, Index: 0}
	block, coins := minted(t, 1, one, one, two, one)
	var l List
	var c chain.Chain
	c.Connect(block)
	adds(t, &l, 0, -1, coins...)
	for range 3 {
		signs(t, &l, &c, 0, coins...)
		if !slices.Equal(l.sealed, []api.Key{one, two}) {
			t.Errorf("the keys that have sealed are %v", l.sealed)
		}
	}
}
