package purse_test

import (
	"reflect"
	"slices"
	"testing"

	"purse/api"
	"purse/purse"
)

// withSeals is the payment's transaction with the seals of its keys.
func withSeals(seed int, x api.Paid) api.Tx {
	y := copied(x.Tx)
	for i, key := range x.Keys {
		y.Ins[i].Seal, _ = purse.Seal(seed, key.Branch, key.Index, purse.Id(y))
	}
	return y
}

// isGone tells whether the chain has moved away under a payment.
func (m *model) isGone(number int) bool {
	txs := slices.Concat(m.blocks...)
	coins := coinsOf(txs)
	for _, c := range m.took[number] {
		if coins[spot{c.Id, c.At}] != out(c.To, c.Value) {
			return true
		}
	}
	return slices.ContainsFunc(txs, func(x api.Tx) bool { return purse.Id(x) == purse.Id(m.paid[number].Tx) })
}

// sign tells too, for the tests that count it, whether it is the same answer again.
func (m *model) sign(number int) (api.Tx, api.Errno, bool) {
	if !m.isLive(number) {
		return api.Tx{}, api.ErrPaid, false
	}
	x := m.paid[number]
	again := m.signed[number]
	if !again {
		if m.isGone(number) {
			return api.Tx{}, api.ErrGone, false
		}
		if slices.ContainsFunc(x.Keys, func(k api.Key) bool { return m.sealed[k] }) {
			return api.Tx{}, api.ErrUsed, false
		}
		if m.signed == nil {
			m.signed, m.sealed = map[int]bool{}, map[api.Key]bool{}
		}
		m.signed[number] = true
		for _, k := range x.Keys {
			m.sealed[k] = true
		}
	}
	return withSeals(m.seed, x), api.OK, again
}

// twin makes a block of a transaction that has the id, but not the outputs, of the only one
// of the chain's last block; false, if that has not just one, without inputs.
func (k *maker) twin(t *testing.T, m *model) ([]api.Tx, bool) {
	t.Helper()
	if len(m.blocks) == 0 {
		return nil, false
	}
	last := m.blocks[len(m.blocks)-1]
	if len(last) != 1 || len(last[0].Ins) > 0 {
		return nil, false
	}
	x := copied(last[0])
	n := k.r.Intn(len(x.Outs))
	switch k.r.Intn(5) {
	case 0:
		x.Outs[n].Value++
	case 1:
		x.Outs[n].To = k.who().address()
	case 2:
		x.Outs = x.Outs[:max(1, n)]
	case 3:
		x.Outs[n], x.Outs[0] = x.Outs[0], x.Outs[n]
	default:
		if len(x.Outs) < api.MaxOuts {
			x.Outs = append(x.Outs, k.who().gets(10+k.r.Intn(100)))
		}
	}
	return block(tagged(t, x, purse.Id(last[0]))), true
}

// signTally tells what the walks came to.
type signTally struct {
	tally
	again, elsewhere, taken int
}

func (c *signTally) sign(t *testing.T, p *purse.Purse, m *model, number int) {
	t.Helper()
	want, wantE, again := m.sign(number)
	got, e := p.Sign(number)
	if e != wantE || !sameTx(got, want) {
		t.Fatalf("Sign(%d) = %v, %d, want %v, %d", number, got, e, want, wantE)
	}
	c.told[e]++
	if again {
		c.again++
		if m.isGone(number) {
			c.elsewhere++
		}
	}
	for i := range got.Ins {
		got.Ins[i].Seal[0] = -1 // what came out is the caller's
	}
	if e == api.OK {
		if e, _ := m.connect(block(want)); e == api.OK {
			m.blocks = m.blocks[:len(m.blocks)-1]
			c.taken++
		}
	}
}

// back takes the chain's last block away.
func back(t *testing.T, p *purse.Purse, m *model) {
	t.Helper()
	disconnect(t, p)
	m.blocks = m.blocks[:len(m.blocks)-1]
}

func (c *signTally) step(t *testing.T, p *purse.Purse, m *model, k *maker) {
	t.Helper()
	any := k.r.Intn(len(m.paid)+2) - 1
	switch step := k.r.Intn(20); {
	case step < 3 && len(m.blocks) > 0:
		back(t, p, m)
	case step < 4:
		c.moveChain(t, p, m, k.block(m))
	case step < 7:
		c.moveChain(t, p, m, k.rich())
	case step < 8:
		c.moveChain(t, p, m, k.confirm(m))
	case step < 9:
		if list, found := k.twin(t, m); found {
			back(t, p, m)
			c.moveChain(t, p, m, list)
		}
	case step < 10 && any >= 0 && any < len(m.paid):
		c.moveChain(t, p, m, block(tagged(t, mint(0, k.who().gets(10+k.r.Intn(50))), purse.Id(m.paid[any].Tx))))
	case step < 11:
		c.abandon(t, p, m, any)
	case step < 15:
		c.sign(t, p, m, any)
	default:
		c.pay(t, p, m, k)
	}
}

// Walks with payments that are signed, held against the model at every step.
func TestWalksP12(t *testing.T) {
	c := &signTally{tally: tally{told: map[api.Errno]int{}}}
	seeds := []int{0, 16, 356, 527, 2925, 3650, api.Base - 1}
	for n := range 84 {
		seed, gap := seeds[n%len(seeds)], []int{1, 3, 6, 1 + n%api.MaxGap}[n%4]
		p, m, k := begin(t, seed, gap), &model{seed: seed, gap: gap}, newMaker(seed, int64(n))
		for range 80 {
			c.step(t, p, m, k)
			if got, want := look(p), m.view(); !reflect.DeepEqual(got, want) {
				t.Fatalf("walk %d: the purse shows %v, want %v", n, got, want)
			}
		}
		for number := range m.paid {
			c.sign(t, p, m, number)
		}
	}
	for e, few := range map[api.Errno]int{api.OK: 500, api.ErrFunds: 50, api.ErrGap: 5, api.ErrPaid: 50, api.ErrGone: 50, api.ErrUsed: 50} {
		if c.told[e] < few {
			t.Errorf("the walks came to the error %d only %d times", e, c.told[e])
		}
	}
	if c.again < 50 || c.elsewhere < 20 || c.taken < 100 || c.change < 50 || c.noChange < 50 {
		t.Errorf("the walks came to too little: %+v", c)
	}
	t.Logf("%+v", c)
}
