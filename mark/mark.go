// Package mark: the numbers below Base, and how they are made out of others.
package mark

import "purse/api"

const turnAdd = 7

// Is tells whether x is a mark.
func Is(x int) bool {
	return x >= 0 && x < api.Base
}

// AreAll tells whether every number of the list is a mark.
func AreAll(list []int) bool {
	for _, x := range list {
		if !Is(x) {
			return false
		}
	}
	return true
}

// Mix lays x onto the mark h. An x from 0 to 2^40, the greatest that any
// promise lays in, leaves the sum far below the bound of an int.
func Mix(h int, x int) int {
	return (api.Step*h + x) % api.Base
}

// Turn goes one way only: nothing in the program turns a mark back.
func Turn(x int) int {
	return (x*x + turnAdd) % api.Base
}

// TurnTimes turns x so many times.
func TurnTimes(x int, times int) int {
	for n := 0; n < times; n++ {
		x = Turn(x)
	}
	return x
}
