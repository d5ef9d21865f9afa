package payments

import (
	"purse/api"
	"purse/chain"
	"purse/key"
	"purse/tx"
)

// Sign seals the live payment of this number with the seed's keys. One that was
// signed is sealed once more: the same keys make the same seals for the same id.
func (l *List) Sign(c *chain.Chain, seed int, number int) (api.Tx, api.Errno) {
	place := l.find(number)
	if place < 0 {
		return api.Tx{}, api.ErrPaid
	}
	p := l.live[place]
	t := tx.Unsealed(p.coins, p.outs, p.tag)
	id := tx.Id(t)
	if !p.signed {
		if c.HasId(id) || !hasAll(c, p.coins) {
			return api.Tx{}, api.ErrGone
		}
		if l.anySealed(p.coins) {
			return api.Tx{}, api.ErrUsed
		}
		l.live[place].signed = true
		l.addSealed(p.coins)
	}
	t.Ins = sealedIns(p.coins, seed, id)
	return t, api.OK
}

func (l *List) hasSealed(k api.Key) bool {
	for _, s := range l.sealed {
		if s == k {
			return true
		}
	}
	return false
}

// anySealed tells whether the key of one of the coins has sealed.
func (l *List) anySealed(coins []api.Coin) bool {
	for _, coin := range coins {
		k := keyOf(coin)
		if l.hasSealed(k) {
			return true
		}
	}
	return false
}

// addSealed notes that the coins' keys have sealed. Two of them may have one key.
func (l *List) addSealed(coins []api.Coin) {
	for _, coin := range coins {
		k := keyOf(coin)
		if !l.hasSealed(k) {
			l.sealed = append(l.sealed, k)
		}
	}
}

func keyOf(coin api.Coin) api.Key {
	return api.Key{Branch: coin.Branch, Index: coin.Index}
}

// hasAll tells whether the coins are still those of the chain that they were.
func hasAll(c *chain.Chain, coins []api.Coin) bool {
	for _, coin := range coins {
		if !c.HasCoin(chain.Coin{Id: coin.Id, At: coin.At, To: coin.To, Value: coin.Value}) {
			return false
		}
	}
	return true
}

func sealedIns(coins []api.Coin, seed int, id int) []api.In {
	var ins []api.In
	for _, coin := range coins {
		seal, errno := key.Seal(seed, coin.Branch, coin.Index, id)
		if errno == api.OK {
			ins = append(ins, api.In{Id: coin.Id, At: coin.At, Seal: seal})
		}
	}
	return ins
}
