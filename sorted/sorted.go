// Package sorted: lists of coins that stay in order.
package sorted

import "purse/api"

// Coins has coins by rising Id, those of one Id by rising At; if GreatestFirst
// is set, the greater Value goes ahead of both.
type Coins struct {
	GreatestFirst bool
	List          []api.Coin
}

// Put lays a coin to its place among the others.
func (c *Coins) Put(coin api.Coin) {
	c.List = append(c.List, coin)
	for i := len(c.List) - 1; i > 0 && c.isAhead(coin, c.List[i-1]); i-- {
		c.List[i] = c.List[i-1]
		c.List[i-1] = coin
	}
}

func (c *Coins) isAhead(a api.Coin, b api.Coin) bool {
	if c.GreatestFirst && a.Value != b.Value {
		return a.Value > b.Value
	}
	if a.Id != b.Id {
		return a.Id < b.Id
	}
	return a.At < b.At
}
