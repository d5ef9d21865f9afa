// Package purse: a wallet that follows a chain: see DOC.md.
package purse

import (
	"purse/api"
	"purse/chain"
	"purse/choice"
	"purse/key"
	"purse/mark"
	"purse/payments"
	"purse/tx"
	"purse/watch"
)

// noChange stands where the index of the change's key would.
const noChange = -1

// Purse is a seed's wallet with the chain that it follows and its payments.
type Purse struct {
	seed, gap int
	chain     chain.Chain
	payments  payments.List
}

// Id tells a transaction's id (P3).
func Id(t api.Tx) int { return tx.Id(t) }

// Address tells a key's address (P4).
func Address(seed int, branch int, index int) (int, api.Errno) {
	return key.Address(seed, branch, index)
}

// Seal makes a key's seal for an id (P4).
func Seal(seed int, branch int, index int, id int) ([]int, api.Errno) {
	return key.Seal(seed, branch, index, id)
}

// Open tells to which address a seal opens for an id (P4).
func Open(id int, seal []int) (int, api.Errno) {
	return key.Open(id, seal)
}

// New makes a purse with an empty chain (P5).
func New(seed int, gap int) (*Purse, api.Errno) {
	if !mark.Is(seed) || gap < 1 || gap > api.MaxGap {
		return nil, api.ErrArg
	}
	return &Purse{seed: seed, gap: gap}, api.OK
}

// Connect takes a block as the chain's last (P6).
func (p *Purse) Connect(block []api.Tx) (api.Errno, int) {
	return p.chain.Connect(block)
}

// Disconnect takes the chain's last block away (P7).
func (p *Purse) Disconnect() api.Errno { return p.chain.Disconnect() }

// Height tells how many blocks the chain has (P7).
func (p *Purse) Height() int { return p.chain.Height() }

// Windows tells how far the keys of the two branches are watched (P8).
func (p *Purse) Windows() (int, int) {
	receive := watch.Window(&p.chain, p.seed, p.gap, api.Receive)
	change := watch.Window(&p.chain, p.seed, p.gap, api.Change)
	return receive, change
}

// Coins lists the own coins (P9).
func (p *Purse) Coins() []api.Coin {
	return watch.Coins(&p.chain, p.seed, p.gap)
}

// Balance adds up the own coins, and the free ones (P9).
func (p *Purse) Balance() (int, int) {
	coins := p.Coins()
	free := p.free(coins)
	return sum(coins), sum(free)
}

// Pay chooses coins and makes a payment (P10).
func (p *Purse) Pay(outs []api.Out, rate int, tag int) (api.Paid, api.Errno) {
	if rate < 0 || rate > api.MaxRate || !tx.RightTag(tag) {
		return api.Paid{}, api.ErrArg
	}
	// There must be room for the change behind them.
	if len(outs) > api.MaxOuts-1 || !tx.RightOuts(outs) {
		return api.Paid{}, api.ErrShape
	}
	coins := p.Coins()
	free := p.free(coins)
	chosen, errno := choice.Choose(free, outs, rate)
	if errno != api.OK {
		return api.Paid{}, errno
	}
	paid := withoutChange(chosen.Coins, outs, tag)
	if chosen.Change > 0 {
		from := p.payments.NextChange()
		k, found := watch.Unpaid(&p.chain, p.seed, p.gap, from)
		if !found {
			return api.Paid{}, api.ErrGap
		}
		paid.Change = k.Index
		paid.Tx.Outs = append(paid.Tx.Outs, api.Out{To: k.Address, Value: chosen.Change})
	}
	id := tx.Id(paid.Tx)
	if p.chain.HasId(id) {
		return api.Paid{}, api.ErrTwice
	}
	paid.Number = p.payments.Add(chosen.Coins, paid.Tx.Outs, tag, paid.Change)
	return paid, api.OK
}

// Abandon gives a payment up (P11).
func (p *Purse) Abandon(number int) api.Errno { return p.payments.Abandon(number) }

// Sign seals a payment (P12).
func (p *Purse) Sign(number int) (api.Tx, api.Errno) {
	return p.payments.Sign(&p.chain, p.seed, number)
}

// free lists those of the own coins that a payment may take.
func (p *Purse) free(own []api.Coin) []api.Coin {
	var free []api.Coin
	for _, coin := range own {
		if p.payments.IsFree(coin) {
			free = append(free, coin)
		}
	}
	return free
}

func sum(coins []api.Coin) int {
	total := 0
	for _, coin := range coins {
		total += coin.Value
	}
	return total
}

// withoutChange makes a payment that has no number yet.
func withoutChange(coins []api.Coin, outs []api.Out, tag int) api.Paid {
	paid := api.Paid{Change: noChange}
	paid.Tx = tx.Unsealed(coins, outs, tag)
	for _, coin := range coins {
		paid.Keys = append(paid.Keys, api.Key{Branch: coin.Branch, Index: coin.Index})
	}
	return paid
}
