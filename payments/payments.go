// Package payments: the payments that were made, which coins they leave free,
// and how they are signed.
package payments

import "purse/api"

// payment is a live one, with its coins as they were when it was made.
type payment struct {
	number int
	coins  []api.Coin
	outs   []api.Out
	tag    int
	signed bool
}

// List is the payments of a purse; its zero value has none. Of an abandoned one
// nothing is left but that its number and its change's key are not given again,
// and that its keys have sealed, if they have.
type List struct {
	live       []payment
	sealed     []api.Key
	made       int
	nextChange int
}

// NextChange tells the least index that is above those of all changes' keys.
func (l *List) NextChange() int { return l.nextChange }

// IsFree tells whether a payment may take this own coin.
func (l *List) IsFree(coin api.Coin) bool {
	k := keyOf(coin)
	return !l.holds(coin.Id, coin.At) && !l.hasSealed(k)
}

// Add takes in a payment of these outputs with these coins, and the index of its
// change's key, or -1 if it has no change, and tells its number.
func (l *List) Add(coins []api.Coin, outs []api.Out, tag int, change int) int {
	p := payment{number: l.made, tag: tag}
	p.coins = append(p.coins, coins...)
	p.outs = append(p.outs, outs...)
	l.live = append(l.live, p)
	l.made++
	if change >= l.nextChange {
		l.nextChange = change + 1
	}
	return p.number
}

// Abandon gives up the live payment of this number.
func (l *List) Abandon(number int) api.Errno {
	var left []payment
	for _, p := range l.live {
		if p.number != number {
			left = append(left, p)
		}
	}
	if len(left) == len(l.live) {
		return api.ErrPaid
	}
	l.live = left
	return api.OK
}

// holds tells whether a live payment has this output as an input.
func (l *List) holds(id int, at int) bool {
	for _, p := range l.live {
		for _, coin := range p.coins {
			if coin.Id == id && coin.At == at {
				return true
			}
		}
	}
	return false
}

// find tells the place of the live payment of this number, or -1 if there is none.
func (l *List) find(number int) int {
	for i, p := range l.live {
		if p.number == number {
			return i
		}
	}
	return -1
}
