// Package payments: the payments that were made, and what the live ones hold.
package payments

import "purse/api"

// spot names an output.
type spot struct {
	id, at int
}

// payment is a live one, with what its inputs name.
type payment struct {
	number int
	spots  []spot
}

// List is the payments of a purse; its zero value has none. Of an abandoned one
// nothing is left but that its number and its change's key are not given again.
type List struct {
	live       []payment
	made       int
	nextChange int
}

// NextChange tells the least index that is above those of all changes' keys.
func (l *List) NextChange() int { return l.nextChange }

// Holds tells whether a live payment has this output as an input.
func (l *List) Holds(id int, at int) bool {
	for _, p := range l.live {
		for _, s := range p.spots {
			if s.id == id && s.at == at {
				return true
			}
		}
	}
	return false
}

// Add takes in a payment with these inputs and the index of its change's key,
// or -1 if it has no change, and tells its number.
func (l *List) Add(ins []api.In, change int) int {
	p := payment{number: l.made}
	for _, in := range ins {
		p.spots = append(p.spots, spot{id: in.Id, at: in.At})
	}
	l.live = append(l.live, p)
	l.made++
	if change >= l.nextChange {
		l.nextChange = change + 1
	}
	return p.number
}

// Abandon gives up the live payment of this number.
func (l *List) Abandon(number int) api.Errno {
	var left []payment
	for _, p := range l.live {
		if p.number != number {
			left = append(left, p)
		}
	}
	if len(left) == len(l.live) {
		return api.ErrPaid
	}
	l.live = left
	return api.OK
}
