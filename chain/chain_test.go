package chain

import (
	"slices"
	"testing"

	"purse/api"
	"purse/key"
	"purse/tx"
)

// mine is the address of seed 0's first key.
const mine = 93131

func mint(tag int, values ...int) api.Tx {
	t := api.Tx{Tag: tag}
	for _, v := range values {
		t.Outs = append(t.Outs, api.Out{To: mine, Value: v})
	}
	return t
}

func spending(tag int, value int, ins ...api.In) api.Tx {
	t := api.Tx{Tag: tag, Ins: ins, Outs: []api.Out{{To: 5, Value: value}}}
	for i := range ins {
		t.Ins[i].Seal, _ = key.Seal(0, 0, 0, tx.Id(t))
	}
	return t
}

func connects(t *testing.T, c *Chain, block ...api.Tx) {
	t.Helper()
	if e, n := c.Connect(block); e != api.OK || n != 0 {
		t.Fatalf("Connect(%v) = %d, %d", block, e, n)
	}
}

func TestZeroChainP7(t *testing.T) {
	var c Chain
	if c.Height() != 0 || len(c.Coins()) != 0 || c.HasId(0) || c.IsPaid(0) {
		t.Errorf("the zero chain is not empty: %v", c)
	}
	if e := c.Disconnect(); e != api.ErrEmpty || c.Height() != 0 {
		t.Errorf("Disconnect() = %d, height %d", e, c.Height())
	}
}

func TestCoinsComeAndGoP6P7(t *testing.T) {
	var c Chain
	a := mint(1, 100, 50)
	id := tx.Id(a)
	connects(t, &c, a)
	b := spending(2, 60, api.In{Id: id, At: 0})
	connects(t, &c, b)
	want := []Coin{{id, 1, mine, 50}, {tx.Id(b), 0, 5, 60}}
	if l := c.Coins(); !slices.Equal(l, want) {
		t.Errorf("coins %v, want %v", l, want)
	}
	if !c.HasId(id) || !c.HasId(tx.Id(b)) || !c.IsPaid(mine) || !c.IsPaid(5) || c.IsPaid(6) {
		t.Error("an id or an address is missing, or one too much is there")
	}
	if e := c.Disconnect(); e != api.OK {
		t.Errorf("Disconnect() = %d", e)
	}
	want = []Coin{{id, 0, mine, 100}, {id, 1, mine, 50}}
	if l := c.Coins(); !slices.Equal(l, want) {
		t.Errorf("coins %v, want %v", l, want)
	}
	if c.HasId(tx.Id(b)) || c.IsPaid(5) || c.Height() != 1 {
		t.Error("something of the block that left is there still")
	}
}

// A coin that was spent, that has left, or that is another is not there.
func TestHasCoinP12(t *testing.T) {
	var c Chain
	a := mint(1, 100, 50)
	id := tx.Id(a)
	one, two := Coin{id, 0, mine, 100}, Coin{id, 1, mine, 50}
	holds := func(coin Coin, want bool) {
		t.Helper()
		if c.HasCoin(coin) != want {
			t.Errorf("the chain has the coin %v: %t", coin, !want)
		}
	}
	holds(Coin{}, false)
	holds(one, false)
	connects(t, &c, a)
	holds(one, true)
	holds(two, true)
	for _, other := range []Coin{{id + 1, 0, mine, 100}, {id, 2, mine, 100}, {id, -1, mine, 100}, {id, 1, mine, 100}, {id, 0, mine + 1, 100}, {id, 0, mine, 99}, {id, 0, mine, 101}, {}} {
		holds(other, false)
	}
	b := spending(2, 60, api.In{Id: id, At: 0})
	connects(t, &c, b)
	holds(one, false)
	holds(two, true)
	holds(Coin{tx.Id(b), 0, 5, 60}, true)
	c.Disconnect()
	holds(one, true)
	holds(Coin{tx.Id(b), 0, 5, 60}, false)
	c.Disconnect()
	holds(one, false)
}

// A refused block leaves no output and no spending behind, of whatever transaction.
func TestRefusedLeavesNothingP6(t *testing.T) {
	var c Chain
	a := mint(1, 100, 50)
	id := tx.Id(a)
	connects(t, &c, a)
	good := spending(2, 60, api.In{Id: id, At: 0})
	bad := spending(2, 51, api.In{Id: id, At: 1})
	for range 3 {
		if e, n := c.Connect([]api.Tx{mint(3, 10), good, bad}); e != api.ErrSum || n != 2 {
			t.Errorf("Connect = %d, %d, want ErrSum, 2", e, n)
		}
		if l := c.Coins(); len(l) != 2 || c.HasId(tx.Id(good)) || c.IsPaid(5) || c.Height() != 1 {
			t.Errorf("the refused block left something: %v", c)
		}
	}
	connects(t, &c, good)
}
