// Package chain: a chain of blocks, what it takes in, and the coins in it.
package chain

import (
	"purse/api"
	"purse/key"
	"purse/tx"
)

// unspent stands where the number of the spending block would.
const unspent = -1

// output is one of a transaction of the chain. The numbers of the blocks that
// made and spent it are all that is needed to take a block back.
type output struct {
	id, at    int
	to, value int
	made      int
	spent     int
}

// Chain is a chain of blocks; its zero value has none. Of its transactions the
// outputs alone are kept: each has one at least, so every id stands there too.
type Chain struct {
	outputs []output
	height  int
}

// Coin is a coin of the chain.
type Coin struct {
	Id, At    int
	To, Value int
}

// spend is an input with the output that it names.
type spend struct {
	place     int
	to, value int
	seal      []int
}

// Height tells how many blocks the chain has.
func (c *Chain) Height() int { return c.height }

// Connect takes a block as the chain's last, or tells the error and the number
// of the transaction that has it.
func (c *Chain) Connect(block []api.Tx) (api.Errno, int) {
	if c.height >= api.MaxBlocks {
		return api.ErrFull, 0
	}
	if len(block) > api.MaxTxs {
		return api.ErrShape, 0
	}
	for i, t := range block {
		errno := c.add(t, i == 0)
		if errno != api.OK {
			c.takeBack()
			return errno, i
		}
	}
	c.height++
	return api.OK, 0
}

// Disconnect takes the last block away.
func (c *Chain) Disconnect() api.Errno {
	if c.height <= 0 {
		return api.ErrEmpty
	}
	c.height--
	c.takeBack()
	return api.OK
}

// HasId tells whether a transaction of the chain has this id.
func (c *Chain) HasId(id int) bool {
	for _, o := range c.outputs {
		if o.id == id {
			return true
		}
	}
	return false
}

// IsPaid tells whether an output of the chain, spent or not, goes to the address.
func (c *Chain) IsPaid(address int) bool {
	for _, o := range c.outputs {
		if o.to == address {
			return true
		}
	}
	return false
}

// HasCoin tells whether the chain has this coin, and it is no other.
func (c *Chain) HasCoin(coin Coin) bool {
	place := c.find(coin.Id, coin.At)
	if place < 0 {
		return false
	}
	o := c.outputs[place]
	return o.to == coin.To && o.value == coin.Value
}

// Coins lists the coins of the chain, the oldest first.
func (c *Chain) Coins() []Coin {
	var coins []Coin
	for _, o := range c.outputs {
		if o.spent == unspent {
			coins = append(coins, Coin{Id: o.id, At: o.at, To: o.to, Value: o.value})
		}
	}
	return coins
}

// add takes a transaction into the block that is being connected, whose number
// is the height as long as it is not the chain's last.
func (c *Chain) add(t api.Tx, first bool) api.Errno {
	if !tx.RightShape(t) || (len(t.Ins) == 0 && !first) {
		return api.ErrShape
	}
	id := tx.Id(t)
	if c.HasId(id) {
		return api.ErrTwice
	}
	spends, found := c.spends(t.Ins)
	if !found {
		return api.ErrCoin
	}
	if !allOpen(spends, id) {
		return api.ErrSeal
	}
	comesIn := sumSpends(spends)
	goesOut := sumOuts(t.Outs)
	if len(spends) > 0 && goesOut > comesIn {
		return api.ErrSum
	}
	for _, s := range spends {
		c.outputs[s.place].spent = c.height
	}
	for at, out := range t.Outs {
		c.outputs = append(c.outputs, output{id: id, at: at, to: out.To, value: out.Value, made: c.height, spent: unspent})
	}
	return api.OK
}

// takeBack undoes what the block with the height as its number has brought:
// the last one, when it leaves, or one that is refused halfway.
func (c *Chain) takeBack() {
	left := len(c.outputs)
	for left > 0 && c.outputs[left-1].made == c.height {
		left--
	}
	c.outputs = c.outputs[:left]
	for i := 0; i < left; i++ {
		if c.outputs[i].spent == c.height {
			c.outputs[i].spent = unspent
		}
	}
}

// spends finds what the inputs name; false, if one names no coin or two name the same.
func (c *Chain) spends(ins []api.In) ([]spend, bool) {
	var spends []spend
	for _, in := range ins {
		place := c.find(in.Id, in.At)
		if place < 0 || isSpent(spends, place) {
			return nil, false
		}
		o := c.outputs[place]
		spends = append(spends, spend{place: place, to: o.to, value: o.value, seal: in.Seal})
	}
	return spends, true
}

// find tells the place of a coin among the outputs, or -1 if there is none.
func (c *Chain) find(id int, at int) int {
	for i, o := range c.outputs {
		if o.id == id && o.at == at && o.spent == unspent {
			return i
		}
	}
	return -1
}

func isSpent(spends []spend, place int) bool {
	for _, s := range spends {
		if s.place == place {
			return true
		}
	}
	return false
}

func allOpen(spends []spend, id int) bool {
	for _, s := range spends {
		to, errno := key.Open(id, s.seal)
		if errno != api.OK || to != s.to {
			return false
		}
	}
	return true
}

func sumSpends(spends []spend) int {
	sum := 0
	for _, s := range spends {
		sum += s.value
	}
	return sum
}

func sumOuts(outs []api.Out) int {
	sum := 0
	for _, out := range outs {
		sum += out.Value
	}
	return sum
}
