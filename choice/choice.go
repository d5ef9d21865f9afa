// Package choice: which coins a payment takes, and what change is left of them.
package choice

import (
	"purse/api"
	"purse/sorted"
)

// Choice has the chosen coins, in the order of the candidates, and the change;
// 0 tells that there is none, as one that there is has Dust at least.
type Choice struct {
	Coins  []api.Coin
	Change int
}

// candidates has the coins that may be taken at a rate, in their order.
type candidates struct {
	coins []api.Coin
	rate  int
}

// A set is a number with a bit for each candidate that is searched, that of the
// first one the highest: so of two sets the one that has the first candidate in
// which they differ is the greater number.
const greatestSet = 1<<api.MaxSearch - 1

// Choose chooses among the free coins for these outputs.
func Choose(free []api.Coin, outs []api.Out, rate int) (Choice, api.Errno) {
	c := order(free, rate)
	wanted := target(outs, rate)
	over := slack(rate)
	set := c.nearest(wanted, wanted+over)
	if set > 0 {
		return Choice{Coins: c.members(set)}, api.OK
	}
	count, sum := c.enough(wanted)
	if count == 0 || count > api.MaxIns {
		return Choice{}, api.ErrFunds
	}
	back := change(sum-wanted, rate)
	return Choice{Coins: c.first(count), Change: back}, api.OK
}

func target(outs []api.Out, rate int) int {
	sum := rate * (api.SizeTx + api.SizeOut*len(outs))
	for _, out := range outs {
		sum += out.Value
	}
	return sum
}

// slack is the most that can be left over without being enough for a change.
func slack(rate int) int { return api.SizeOut*rate + api.Dust - 1 }

// change tells what comes back of what is left over, once its own output is
// paid for; 0, if that is too little.
func change(left int, rate int) int {
	if left <= slack(rate) {
		return 0
	}
	return left - api.SizeOut*rate
}

func worth(coin api.Coin, rate int) int { return coin.Value - api.SizeIn*rate }

func order(free []api.Coin, rate int) candidates {
	worthy := sorted.Coins{GreatestFirst: true}
	for _, coin := range free {
		if worth(coin, rate) >= 1 {
			worthy.Put(coin)
		}
	}
	return candidates{coins: worthy.List, rate: rate}
}

// nearest tells the set with the least sum of those from one bound to the
// other, or 0 if there is none. Going down, it comes first to the set that goes
// ahead of others with the same sum.
func (c *candidates) nearest(from int, to int) int {
	best := 0
	least := to + 1
	for set := greatestSet; set > 0; set-- {
		sum := c.sum(set)
		if sum >= from && sum < least {
			best = set
			least = sum
		}
	}
	return best
}

// has tells whether a candidate is in the set. A bit without a candidate tells
// nothing: a set is then as good as the same one without it.
func (c *candidates) has(set int, place int) bool {
	if place < 0 || place >= api.MaxSearch || place >= len(c.coins) {
		return false
	}
	return set>>(api.MaxSearch-1-place)&1 == 1
}

func (c *candidates) sum(set int) int {
	sum := 0
	for i := 0; i < api.MaxSearch; i++ {
		if c.has(set, i) {
			sum += worth(c.coins[i], c.rate)
		}
	}
	return sum
}

func (c *candidates) members(set int) []api.Coin {
	var coins []api.Coin
	for i := 0; i < api.MaxSearch; i++ {
		if c.has(set, i) {
			coins = append(coins, c.coins[i])
		}
	}
	return coins
}

// enough tells how few of the first candidates have worths that sum up to what
// is wanted, and their sum; 0, if all together do not.
func (c *candidates) enough(wanted int) (int, int) {
	sum := 0
	for i, coin := range c.coins {
		sum += worth(coin, c.rate)
		if sum >= wanted {
			return i + 1, sum
		}
	}
	return 0, 0
}

func (c *candidates) first(count int) []api.Coin {
	var coins []api.Coin
	for i := 0; i < count && i < len(c.coins); i++ {
		coins = append(coins, c.coins[i])
	}
	return coins
}
