package purse_test

import (
	"math/rand"
	"reflect"
	"slices"
	"testing"

	"purse/api"
	"purse/purse"
)

func (m *model) isLive(number int) bool {
	return number >= 0 && number < len(m.paid) && !m.abandoned[number]
}

// isFree tells whether no live payment has the own coin as an input, and its key has sealed nothing.
func (m *model) isFree(c api.Coin) bool {
	for _, x := range m.paid {
		for _, i := range x.Tx.Ins {
			if m.isLive(x.Number) && i.Id == c.Id && i.At == c.At {
				return false
			}
		}
	}
	return !m.sealed[api.Key{Branch: c.Branch, Index: c.Index}]
}

func (m *model) abandon(number int) api.Errno {
	if !m.isLive(number) {
		return api.ErrPaid
	}
	if m.abandoned == nil {
		m.abandoned = map[int]bool{}
	}
	m.abandoned[number] = true
	return api.OK
}

// candidates, each with its worth.
func (m *model) candidates(rate int) ([]api.Coin, []int) {
	coins := slices.DeleteFunc(m.view().coins, func(c api.Coin) bool { return !m.isFree(c) || c.Value-7*rate < 1 })
	// The view has them by Id and At already.
	slices.SortStableFunc(coins, func(a, b api.Coin) int { return b.Value - a.Value })
	var worths []int
	for _, c := range coins {
		worths = append(worths, c.Value-7*rate)
	}
	return coins, worths
}

// sets lists all sets of n candidates.
func sets(n int) [][]bool {
	if n == 0 {
		return [][]bool{{}}
	}
	var list [][]bool
	for _, s := range sets(n - 1) {
		list = append(list, append(slices.Clone(s), false), append(slices.Clone(s), true))
	}
	return list
}

func sumOf(set []bool, worths []int) int {
	sum := 0
	for i, has := range set {
		if has {
			sum += worths[i]
		}
	}
	return sum
}

// fitting finds the set without change, and tells of how many with the same sum it goes ahead.
func fitting(worths []int, target int, slack int) ([]bool, int) {
	var kept [][]bool
	least := 0
	for _, s := range sets(min(8, len(worths))) {
		sum := sumOf(s, worths)
		if sum < target || sum > target+slack || (len(kept) > 0 && sum > least) {
			continue
		}
		if sum < least {
			kept = nil
		}
		kept, least = append(kept, s), sum
	}
	same := len(kept)
	for i := 0; len(kept) > 1; i++ {
		var having [][]bool
		for _, s := range kept {
			if s[i] {
				having = append(having, s)
			}
		}
		if len(having) > 0 {
			kept = having
		}
	}
	if len(kept) == 0 {
		return nil, 0
	}
	return kept[0], same
}

// changeKey tells the index of the next change's key, or -1.
func (m *model) changeKey() int {
	after := -1
	for _, x := range m.paid {
		after = max(after, x.Change)
	}
	for i := after + 1; i < m.window(api.Change); i++ {
		paid := false
		for _, x := range slices.Concat(m.blocks...) {
			for _, o := range x.Outs {
				paid = paid || o.To == change(m.seed, i).address()
			}
		}
		if !paid {
			return i
		}
	}
	return -1
}

func wrongPay(list []api.Out, rate int, tag int) api.Errno {
	if rate < 0 || rate > 1000 || tag < 0 || tag > 1<<40 {
		return api.ErrArg
	}
	if len(list) > 7 || !rightShape(tx(0, nil, list)) {
		return api.ErrShape
	}
	return api.OK
}

// pay tells too, for the tests that count it, of how many sets of one sum the chosen one goes ahead.
func (m *model) pay(list []api.Out, rate int, tag int) (api.Paid, api.Errno, int) {
	if e := wrongPay(list, rate, tag); e != api.OK {
		return api.Paid{}, e, 0
	}
	coins, worths := m.candidates(rate)
	target := rate * (3 + 2*len(list))
	for _, o := range list {
		target += o.Value
	}
	back := 0
	set, same := fitting(worths, target, 2*rate+10-1)
	if set == nil {
		for sumOf(set, worths) < target {
			if len(set) == len(coins) || len(set) == 10 {
				return api.Paid{}, api.ErrFunds, 0
			}
			set = append(set, true)
		}
		back = sumOf(set, worths) - target - 2*rate
	}
	x := api.Paid{Number: len(m.paid), Tx: tx(tag, nil, slices.Clone(list)), Change: -1}
	var took []api.Coin
	for i, has := range set {
		if has {
			took = append(took, coins[i])
			x.Tx.Ins = append(x.Tx.Ins, in(coins[i].Id, coins[i].At))
			x.Keys = append(x.Keys, api.Key{Branch: coins[i].Branch, Index: coins[i].Index})
		}
	}
	if back >= 10 {
		if x.Change = m.changeKey(); x.Change < 0 {
			return api.Paid{}, api.ErrGap, 0
		}
		x.Tx.Outs = append(x.Tx.Outs, change(m.seed, x.Change).gets(back))
	}
	for _, y := range slices.Concat(m.blocks...) {
		if purse.Id(y) == purse.Id(x.Tx) {
			return api.Paid{}, api.ErrTwice, 0
		}
	}
	m.paid, m.took = append(m.paid, x), append(m.took, took)
	return x, api.OK, same
}

// samePaid holds two payments against one another; an empty list is like none.
func samePaid(a api.Paid, b api.Paid) bool {
	return slices.Equal(a.Keys, b.Keys) && a.Number == b.Number && a.Change == b.Change && sameTx(a.Tx, b.Tx)
}

func sameTx(a api.Tx, b api.Tx) bool {
	return a.Tag == b.Tag && slices.Equal(a.Outs, b.Outs) && slices.EqualFunc(a.Ins, b.Ins, func(x, y api.In) bool {
		return x.Id == y.Id && x.At == y.At && slices.Equal(x.Seal, y.Seal)
	})
}

// request asks for what is there, most often, and now and then for exactly what some coins are worth.
func (k *maker) request(m *model) ([]api.Out, int, int) {
	rate := []int{0, 0, 1, 2, k.r.Intn(20), k.r.Intn(6), k.r.Intn(1001)}[k.r.Intn(7)]
	_, worths := m.candidates(rate)
	sum := 10 + k.r.Intn(100)
	if len(worths) > 0 {
		set := make([]bool, len(worths))
		for range 1 + k.r.Intn(4) {
			set[k.r.Intn(len(set))] = true
		}
		if k.r.Intn(4) == 0 { // more than eight, if there are
			for i := range min(len(set), 9+k.r.Intn(3)) {
				set[i] = true
			}
		}
		sum = sumOf(set, worths)
		sum -= []int{0, 2*rate + 9, 2*rate + 10, 2*rate + 11, -1, k.r.Intn(20), k.r.Intn(sum), k.r.Intn(sum)}[k.r.Intn(8)]
	}
	count := 1 + k.r.Intn(2)*k.r.Intn(7)
	sum -= rate * (3 + 2*count)
	var list []api.Out
	for n := range count {
		v := sum
		if n < count-1 {
			v = 10 + k.r.Intn(max(1, sum/2))
		}
		list = append(list, out(k.r.Intn(api.Base), max(v, 10)))
		sum -= v
	}
	return list, rate, k.r.Intn(1000)
}

// spoilRequest does something wrong to a request, or gives it a tag that brings it to an id of the chain.
func (k *maker) spoilRequest(m *model, list []api.Out, rate int, tag int) ([]api.Out, int, int) {
	s := strange[k.r.Intn(len(strange))]
	switch k.r.Intn(8) {
	case 0:
		return list, s, tag
	case 1:
		return list, rate, s
	case 2:
		list[k.r.Intn(len(list))].Value = s
	case 3:
		list[k.r.Intn(len(list))].To = s
	case 4:
		return manyOuts(k.r.Intn(12), list[0]), rate, tag
	default:
		txs := slices.Concat(m.blocks...)
		dry := *m
		x, e, _ := dry.pay(list, rate, tag)
		if e != api.OK || len(txs) == 0 {
			break
		}
		id := purse.Id(txs[k.r.Intn(len(txs))])
		for x.Tx.Tag = 0; purse.Id(x.Tx) != id; x.Tx.Tag++ {
		}
		return list, rate, x.Tx.Tag
	}
	return list, rate, tag
}

// rich makes a block that pays to keys near the beginning.
func (k *maker) rich() []api.Tx {
	x := mint(k.r.Intn(1000))
	for range 1 + k.r.Intn(api.MaxOuts) {
		x.Outs = append(x.Outs, owner{k.seed, k.r.Intn(2), k.r.Intn(4)}.gets(10*(1+k.r.Intn(9))+k.r.Intn(2)*k.r.Intn(100)))
	}
	return block(x)
}

// confirm makes a block of one of the payments, whether it is live or not.
func (k *maker) confirm(m *model) []api.Tx {
	if len(m.paid) == 0 {
		return nil
	}
	return block(withSeals(m.seed, m.paid[k.r.Intn(len(m.paid))]))
}

// tally tells what the walks came to.
type tally struct {
	told                             map[api.Errno]int
	tied, change, noChange, moreThan int
}

func (c *tally) pay(t *testing.T, p *purse.Purse, m *model, k *maker) {
	t.Helper()
	list, rate, tag := k.request(m)
	if k.r.Intn(4) == 0 {
		list, rate, tag = k.spoilRequest(m, list, rate, tag)
	}
	given := slices.Clone(list)
	want, wantE, same := m.pay(list, rate, tag)
	got, e := p.Pay(given, rate, tag)
	if e != wantE || !samePaid(got, want) {
		t.Fatalf("Pay(%v, %d, %d) = %v, %d, want %v, %d", list, rate, tag, got, e, want, wantE)
	}
	if !slices.Equal(given, list) {
		t.Fatalf("%v was handed in, it is %v now", list, given)
	}
	c.told[e]++
	if same > 1 {
		c.tied++
	}
	if len(got.Keys) > 8 {
		c.moreThan++
	}
	if e == api.OK && got.Change >= 0 {
		c.change++
	} else if e == api.OK {
		c.noChange++
	}
}

func (c *tally) abandon(t *testing.T, p *purse.Purse, m *model, number int) {
	t.Helper()
	want := m.abandon(number)
	if e := p.Abandon(number); e != want {
		t.Fatalf("Abandon(%d) = %d, want %d", number, e, want)
	}
	c.told[want]++
}

func (c *tally) moveChain(t *testing.T, p *purse.Purse, m *model, list []api.Tx) {
	t.Helper()
	want, n := m.connect(list)
	if e, at := p.Connect(list); e != want || at != n {
		t.Fatalf("Connect(%v) = %d, %d, want %d, %d", list, e, at, want, n)
	}
}

// Walks with payments, held against the model at every step.
func TestWalksP9P10P11(t *testing.T) {
	c := &tally{told: map[api.Errno]int{}}
	seeds := []int{0, 16, 356, 527, 2925, 3650, api.Base - 1}
	for n := range 63 {
		seed, gap := seeds[n%len(seeds)], []int{1, 2, 4, 1 + n%api.MaxGap}[n%4]
		p, m, k := begin(t, seed, gap), &model{seed: seed, gap: gap}, newMaker(seed, int64(n))
		for range 70 {
			switch step := k.r.Intn(12); {
			case step < 3 && len(m.blocks) > 0 && n%3 > 0:
				back(t, p, m)
			case step < 5:
				c.moveChain(t, p, m, k.block(m))
			case step < 6:
				c.moveChain(t, p, m, k.rich())
			case step < 7:
				c.moveChain(t, p, m, k.confirm(m))
			case step < 8:
				c.abandon(t, p, m, k.r.Intn(len(m.paid)+2)-1)
			default:
				c.pay(t, p, m, k)
			}
			if got, want := look(p), m.view(); !reflect.DeepEqual(got, want) {
				t.Fatalf("walk %d: the purse shows %v, want %v", n, got, want)
			}
		}
	}
	for e, few := range map[api.Errno]int{api.OK: 500, api.ErrArg: 10, api.ErrShape: 10, api.ErrFunds: 50, api.ErrGap: 5, api.ErrTwice: 10, api.ErrPaid: 50} {
		if c.told[e] < few {
			t.Errorf("the walks came to the error %d only %d times", e, c.told[e])
		}
	}
	if c.tied < 5 || c.change < 50 || c.noChange < 50 || c.moreThan < 5 {
		t.Errorf("the walks came to too little: %+v", c)
	}
	t.Logf("%+v", c)
}

func TestStrangeRequestsP1(t *testing.T) {
	r := rand.New(rand.NewSource(3))
	numbers := append(strange, -7, 3, 999, api.MaxRate, api.MaxRate+1)
	pick := func() int { return numbers[r.Intn(len(numbers))] }
	p, m := begin(t, 10, 3), &model{seed: 10, gap: 3}
	c := &tally{told: map[api.Errno]int{}}
	mine := receive(10, 1)
	c.moveChain(t, p, m, block(mint(1, mine.gets(api.MaxValue), mine.gets(api.MaxValue), mine.gets(100000), mine.gets(10))))
	for range 20000 {
		list := manyOuts(r.Intn(10), out(pick(), pick()))
		if len(list) > 1 {
			list[0] = out(pick(), pick())
		}
		rate, tag := pick(), pick()
		want, wantE, _ := m.pay(list, rate, tag)
		if got, e := p.Pay(list, rate, tag); e != wantE || !samePaid(got, want) {
			t.Fatalf("Pay(%v, %d, %d) = %v, %d, want %v, %d", list, rate, tag, got, e, want, wantE)
		}
		c.told[wantE]++
		c.abandon(t, p, m, pick())
		if r.Intn(10) == 0 {
			c.abandon(t, p, m, len(m.paid)-1)
		}
	}
	if got, want := look(p), m.view(); !reflect.DeepEqual(got, want) {
		t.Errorf("the purse shows %v, want %v", got, want)
	}
	t.Log(c.told)
}
