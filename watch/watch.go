// Package watch: the keys of a seed that are watched, and the coins that are theirs.
package watch

import (
	"purse/api"
	"purse/chain"
	"purse/key"
	"purse/sorted"
)

// Key is a watched key.
type Key struct {
	Branch, Index int
	Address       int
}

// Window tells how many keys of a branch are watched. Going up once is enough:
// what is paid lets in indices above it alone.
func Window(c *chain.Chain, seed int, gap int, branch int) int {
	window := atMost(gap)
	for index := 0; index < window; index++ {
		address, errno := key.Address(seed, branch, index)
		if errno == api.OK && c.IsPaid(address) {
			window = atMost(index + 1 + gap)
		}
	}
	return window
}

// Keys lists the watched keys, in the order in which one goes ahead of another
// that has the same address.
func Keys(c *chain.Chain, seed int, gap int) []Key {
	var keys []Key
	for branch := api.Receive; branch <= api.Change; branch++ {
		window := Window(c, seed, gap, branch)
		for index := 0; index < window; index++ {
			address, errno := key.Address(seed, branch, index)
			if errno == api.OK {
				keys = append(keys, Key{Branch: branch, Index: index, Address: address})
			}
		}
	}
	return keys
}

// Coins lists the own coins by rising Id, those of one Id by rising At.
func Coins(c *chain.Chain, seed int, gap int) []api.Coin {
	keys := Keys(c, seed, gap)
	var own sorted.Coins
	for _, coin := range c.Coins() {
		place := first(keys, coin.To)
		if place >= 0 {
			k := keys[place]
			own.Put(api.Coin{Id: coin.Id, At: coin.At, To: coin.To, Value: coin.Value, Branch: k.Branch, Index: k.Index})
		}
	}
	return own.List
}

// Unpaid finds the first watched key of the branch Change, from an index on, to
// whose address no output of the chain goes; false, if there is none.
func Unpaid(c *chain.Chain, seed int, gap int, from int) (Key, bool) {
	for _, k := range Keys(c, seed, gap) {
		if k.Branch == api.Change && k.Index >= from && !c.IsPaid(k.Address) {
			return k, true
		}
	}
	return Key{}, false
}

func atMost(window int) int {
	if window > api.MaxKeys {
		return api.MaxKeys
	}
	return window
}

// first tells the place of the first key with this address, or -1 if there is none.
func first(keys []Key, address int) int {
	for i, k := range keys {
		if k.Address == address {
			return i
		}
	}
	return -1
}
