// Package tx: the right shape of a transaction, its id, and how one is made of coins.
package tx

import (
	"purse/api"
	"purse/key"
	"purse/mark"
)

// RightShape tells whether the transaction has the right shape.
func RightShape(t api.Tx) bool {
	return RightTag(t.Tag) && rightIns(t.Ins) && RightOuts(t.Outs)
}

// RightTag tells whether a transaction of the right shape may have this tag.
func RightTag(tag int) bool { return tag >= 0 && tag <= api.MaxTag }

// RightOuts tells whether a transaction of the right shape may have these outputs.
func RightOuts(outs []api.Out) bool {
	if len(outs) < 1 || len(outs) > api.MaxOuts {
		return false
	}
	for _, out := range outs {
		if !rightOut(out) {
			return false
		}
	}
	return true
}

// Id tells the id of a transaction, or 0 if it has not the right shape. As an
// id may be 0 too, RightShape alone tells whether the shape is right.
func Id(t api.Tx) int {
	if !RightShape(t) {
		return 0
	}
	h := mark.Mix(1, t.Tag)
	h = mark.Mix(h, len(t.Ins))
	for _, in := range t.Ins {
		h = mark.Mix(h, in.Id)
		h = mark.Mix(h, in.At)
	}
	h = mark.Mix(h, len(t.Outs))
	for _, out := range t.Outs {
		h = mark.Mix(h, out.To)
		h = mark.Mix(h, out.Value)
	}
	return h
}

// Unsealed makes the transaction that pays these outputs with these coins, as
// yet without seals.
func Unsealed(coins []api.Coin, outs []api.Out, tag int) api.Tx {
	t := api.Tx{Tag: tag}
	for _, coin := range coins {
		t.Ins = append(t.Ins, api.In{Id: coin.Id, At: coin.At})
	}
	t.Outs = append(t.Outs, outs...)
	return t
}

func rightIns(ins []api.In) bool {
	if len(ins) > api.MaxIns {
		return false
	}
	for _, in := range ins {
		if !rightIn(in) {
			return false
		}
	}
	return true
}

func rightIn(in api.In) bool {
	if !mark.Is(in.Id) || in.At < 0 || in.At >= api.MaxOuts {
		return false
	}
	return len(in.Seal) == 0 || key.IsSeal(in.Seal)
}

func rightOut(out api.Out) bool {
	return mark.Is(out.To) && out.Value >= api.Dust && out.Value <= api.MaxValue
}
