// Package key: the keys of a seed, their addresses, and what they seal.
package key

import (
	"purse/api"
	"purse/mark"
)

// The first three digits of an id have this base; the last two tell what
// those three lack of their greatest sum.
const (
	digitBase = 8
	greatest  = 3 * (digitBase - 1)
)

// Is tells whether there is a key of this seed, branch and index.
func Is(seed int, branch int, index int) bool {
	if branch != api.Receive && branch != api.Change {
		return false
	}
	if index < 0 || index >= api.MaxKeys {
		return false
	}
	return mark.Is(seed)
}

// Address tells the address of a key.
func Address(seed int, branch int, index int) (int, api.Errno) {
	if !Is(seed, branch, index) {
		return 0, api.ErrArg
	}
	marks := secrets(seed, branch, index)
	for j := 0; j < api.SealLen; j++ {
		marks[j] = mark.TurnTimes(marks[j], api.Rounds)
	}
	return mixAll(marks), api.OK
}

// Seal makes the seal of a key for an id.
func Seal(seed int, branch int, index int, id int) ([]int, api.Errno) {
	if !Is(seed, branch, index) {
		return nil, api.ErrArg
	}
	if !mark.Is(id) {
		return nil, api.ErrArg
	}
	marks := secrets(seed, branch, index)
	turns := digits(id)
	seal := make([]int, api.SealLen)
	for j := 0; j < api.SealLen; j++ {
		seal[j] = mark.TurnTimes(marks[j], turns[j])
	}
	return seal, api.OK
}

// IsSeal tells whether the list is as many marks as a seal has.
func IsSeal(list []int) bool {
	return len(list) == api.SealLen && mark.AreAll(list)
}

// Open tells what a seal opens to for an id.
func Open(id int, seal []int) (int, api.Errno) {
	if !mark.Is(id) {
		return 0, api.ErrArg
	}
	if !IsSeal(seal) {
		return 0, api.ErrShape
	}
	turns := digits(id)
	var marks [api.SealLen]int
	for j := 0; j < api.SealLen; j++ {
		marks[j] = mark.TurnTimes(seal[j], api.Rounds-turns[j])
	}
	return mixAll(marks), api.OK
}

func secrets(seed int, branch int, index int) [api.SealLen]int {
	h := mark.Mix(seed, branch)
	h = mark.Mix(h, index)
	var marks [api.SealLen]int
	for j := 0; j < api.SealLen; j++ {
		mixed := mark.Mix(h, j)
		marks[j] = mark.Turn(mixed)
	}
	return marks
}

// digits tells how often each secret is turned for an id. If for another id
// none of the first three is less and one is greater, one of the last two is
// less: so turning a seal on, which anyone can do, never fits it to other digits.
func digits(id int) [api.SealLen]int {
	high := id / (digitBase * digitBase) % digitBase
	middle := id / digitBase % digitBase
	low := id % digitBase
	lack := greatest - high - middle - low
	return [api.SealLen]int{high, middle, low, lack / digitBase, lack % digitBase}
}

func mixAll(marks [api.SealLen]int) int {
	h := 1
	for j := 0; j < api.SealLen; j++ {
		h = mark.Mix(h, marks[j])
	}
	return h
}
