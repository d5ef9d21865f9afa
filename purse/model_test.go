package purse_test

import (
	"math/rand"
	"reflect"
	"slices"
	"testing"

	"purse/api"
	"purse/purse"
)

// spot names an output.
type spot struct{ id, at int }

// model is a purse that keeps whole blocks and finds everything anew, by the
// document's words one after the other.
type model struct {
	seed, gap int
	blocks    [][]api.Tx
	paid      []api.Paid   // all that were made
	took      [][]api.Coin // of each of these the coins, as they were
	abandoned map[int]bool
	signed    map[int]bool
	sealed    map[api.Key]bool
}

func copied(x api.Tx) api.Tx {
	x.Ins, x.Outs = slices.Clone(x.Ins), slices.Clone(x.Outs)
	for i := range x.Ins {
		x.Ins[i].Seal = slices.Clone(x.Ins[i].Seal)
	}
	return x
}

func copies(list []api.Tx) []api.Tx {
	list = slices.Clone(list)
	for i := range list {
		list[i] = copied(list[i])
	}
	return list
}

func coinsOf(txs []api.Tx) map[spot]api.Out {
	coins := map[spot]api.Out{}
	for _, x := range txs {
		for at, o := range x.Outs {
			coins[spot{purse.Id(x), at}] = o
		}
	}
	for _, x := range txs {
		for _, i := range x.Ins {
			delete(coins, spot{i.Id, i.At})
		}
	}
	return coins
}

func (m *model) window(branch int) int {
	paid := map[int]bool{}
	for _, x := range slices.Concat(m.blocks...) {
		for _, o := range x.Outs {
			paid[o.To] = true
		}
	}
	holds := func(w int) bool {
		for i := range w {
			if paid[(owner{m.seed, branch, i}).address()] && w < i+1+m.gap && w != api.MaxKeys {
				return false
			}
		}
		return true
	}
	w := m.gap
	for !holds(w) {
		w++
	}
	return w
}

func (m *model) view() view {
	v := view{height: len(m.blocks), receive: m.window(0), change: m.window(1), coins: []api.Coin{}}
	coins := coinsOf(slices.Concat(m.blocks...))
	for branch, w := range []int{v.receive, v.change} {
		for i := range w {
			for s, o := range coins {
				if o.To == (owner{m.seed, branch, i}).address() {
					v.coins = append(v.coins, api.Coin{Id: s.id, At: s.at, To: o.To, Value: o.Value, Branch: branch, Index: i})
					v.all += o.Value
					delete(coins, s)
				}
			}
		}
	}
	slices.SortFunc(v.coins, func(a, b api.Coin) int { return (a.Id-b.Id)*100 + a.At - b.At })
	for _, c := range v.coins {
		if m.isFree(c) {
			v.free += c.Value
		}
	}
	return v
}

func rightShape(x api.Tx) bool {
	if x.Tag < 0 || x.Tag > 1<<40 || len(x.Ins) > 10 || len(x.Outs) < 1 || len(x.Outs) > 8 {
		return false
	}
	for _, i := range x.Ins {
		if !mark(i.Id) || i.At < 0 || i.At > 7 || (len(i.Seal) != 0 && len(i.Seal) != 5) {
			return false
		}
		for _, s := range i.Seal {
			if !mark(s) {
				return false
			}
		}
	}
	for _, o := range x.Outs {
		if !mark(o.To) || o.Value < 10 || o.Value > 1<<40 {
			return false
		}
	}
	return true
}

func fault(x api.Tx, first bool, ahead []api.Tx) api.Errno {
	if !rightShape(x) || (len(x.Ins) == 0 && !first) {
		return api.ErrShape
	}
	for _, y := range ahead {
		if purse.Id(x) == purse.Id(y) {
			return api.ErrTwice
		}
	}
	coins, named := coinsOf(ahead), map[spot]bool{}
	in, out := 0, 0
	for _, i := range x.Ins {
		s := spot{i.Id, i.At}
		if o, found := coins[s]; !found || named[s] {
			return api.ErrCoin
		} else {
			in += o.Value
		}
		named[s] = true
	}
	for _, i := range x.Ins {
		if to, e := purse.Open(purse.Id(x), i.Seal); e != api.OK || to != coins[spot{i.Id, i.At}].To {
			return api.ErrSeal
		}
	}
	for _, o := range x.Outs {
		out += o.Value
	}
	if len(x.Ins) > 0 && out > in {
		return api.ErrSum
	}
	return api.OK
}

func (m *model) connect(list []api.Tx) (api.Errno, int) {
	if len(m.blocks) == 40 {
		return api.ErrFull, 0
	}
	if len(list) > 6 {
		return api.ErrShape, 0
	}
	ahead := slices.Concat(m.blocks...)
	for n, x := range list {
		if e := fault(x, n == 0, ahead); e != api.OK {
			return e, n
		}
		ahead = append(ahead, x)
	}
	m.blocks = append(m.blocks, copies(list))
	return api.OK, 0
}

// maker makes blocks that are mostly right.
type maker struct {
	r      *rand.Rand
	seed   int
	owners map[int]owner // by address
	list   []owner
}

func newMaker(seed int, n int64) *maker {
	k := &maker{r: rand.New(rand.NewSource(n)), seed: seed, owners: map[int]owner{}}
	for branch := range 2 {
		for i := range api.MaxKeys {
			k.list = append(k.list, owner{seed, branch, i})
		}
	}
	k.list = append(k.list, receive((seed+1)%api.Base, 0), change((seed+1)%api.Base, 1))
	for _, o := range k.list {
		k.owners[o.address()] = o
	}
	return k
}

// who picks keys near the beginning more often.
func (k *maker) who() owner {
	if k.r.Intn(8) == 0 {
		return k.list[k.r.Intn(len(k.list))]
	}
	return owner{k.seed, k.r.Intn(2), k.r.Intn(1 + k.r.Intn(30))}
}

func (k *maker) tx(coins map[spot]api.Out, mint bool) api.Tx {
	x := api.Tx{Tag: k.r.Intn(1000)}
	var spots []spot
	for s := range coins {
		spots = append(spots, s)
	}
	slices.SortFunc(spots, func(a, b spot) int { return (a.id-b.id)*100 + a.at - b.at })
	sum := 20 + k.r.Intn(200)
	if !mint {
		sum = 0
		for range min(1+k.r.Intn(3), len(spots)) {
			n := k.r.Intn(len(spots))
			x.Ins = append(x.Ins, in(spots[n].id, spots[n].at))
			sum += coins[spots[n]].Value
			spots = slices.Delete(spots, n, n+1)
		}
	}
	for sum >= 10 && len(x.Outs) < 4 && (len(x.Outs) == 0 || k.r.Intn(3) > 0) {
		v := 10 + k.r.Intn(sum-9)
		x.Outs = append(x.Outs, k.who().gets(v))
		sum -= v
	}
	return x
}

// spoil does something wrong to a transaction, most often.
func (k *maker) spoil(x *api.Tx, ahead []api.Tx) {
	n := max(1, len(x.Ins))
	switch k.r.Intn(10) {
	case 0:
		x.Outs[0].Value = 9
	case 1:
		*x = copied(ahead[k.r.Intn(len(ahead))])
	case 2:
		x.Ins = append(x.Ins, x.Ins[:min(1, len(x.Ins))]...)
	case 3:
		y := ahead[k.r.Intn(len(ahead))]
		x.Ins = append(x.Ins, y.Ins[:min(1, len(y.Ins))]...)
	case 4:
		x.Outs = append(x.Outs, k.who().gets(1000))
	case 5:
		x.Ins = append(x.Ins, in(purse.Id(*x), k.r.Intn(8)))
	case 6:
		x.Outs[0].To = strange[k.r.Intn(len(strange))]
	case 7:
		x.Outs = manyOuts(k.r.Intn(10), x.Outs[0])
	case 8:
		x.Tag = strange[k.r.Intn(len(strange))]
	case 9:
		x.Ins = manyIns(n, in(k.r.Intn(api.Base), 0))
	}
}

func (k *maker) seal(x *api.Tx, coins map[spot]api.Out) {
	for i, input := range x.Ins {
		if o, found := k.owners[coins[spot{input.Id, input.At}].To]; found {
			x.Ins[i].Seal, _ = purse.Seal(o.seed, o.branch, o.index, purse.Id(*x))
		}
	}
}

func (k *maker) block(m *model) []api.Tx {
	ahead := slices.Concat(m.blocks...)
	var list []api.Tx
	spoilt := k.r.Intn(3) == 0
	for range k.r.Intn(5) + k.r.Intn(4) {
		coins := coinsOf(ahead)
		mint := len(list) == 0 && (len(coins) == 0 || k.r.Intn(3) > 0)
		x := k.tx(coins, mint)
		if len(x.Outs) == 0 {
			break
		}
		bad := spoilt && k.r.Intn(2) == 0 && len(ahead) > 0
		if bad && k.r.Intn(4) > 0 {
			k.spoil(&x, ahead)
		}
		k.seal(&x, coins)
		if bad && k.r.Intn(3) == 0 && len(x.Ins) > 0 {
			x.Ins[len(x.Ins)-1].Seal = [][]int{nil, {}, {1}, {1, 2, 3, 4, 5}}[k.r.Intn(4)]
		}
		list = append(list, x)
		ahead = append(ahead, x)
	}
	return list
}

// Walks up and down the chain, held against the model at every step. The seeds with two keys of one address are among them.
func TestWalksP6P7P8P9(t *testing.T) {
	told := map[api.Errno]int{}
	seeds := []int{0, 16, 356, 527, 2925, 3650, api.Base - 1}
	for n := range 42 {
		seed, gap := seeds[n%len(seeds)], 1+(n*7)%api.MaxGap
		p, m, k := begin(t, seed, gap), &model{seed: seed, gap: gap}, newMaker(seed, int64(n))
		for range 60 {
			if k.r.Intn(10) < n%4 && k.r.Intn(2) == 0 {
				e := p.Disconnect()
				if (e == api.OK) != (len(m.blocks) > 0) || (e != api.OK && e != api.ErrEmpty) {
					t.Fatalf("Disconnect at the height %d = %d", len(m.blocks), e)
				}
				m.blocks = m.blocks[:max(0, len(m.blocks)-1)]
				told[e]++
			} else {
				list := k.block(m)
				given := copies(list)
				wantE, wantN := m.connect(list)
				if e, at := p.Connect(given); e != wantE || at != wantN {
					t.Fatalf("walk %d: Connect(%v) = %d, %d, want %d, %d", n, list, e, at, wantE, wantN)
				}
				if !reflect.DeepEqual(given, copies(list)) {
					t.Fatalf("walk %d: %v was handed in, it is %v now", n, list, given)
				}
				told[wantE]++
			}
			if got, want := look(p), m.view(); !reflect.DeepEqual(got, want) {
				t.Fatalf("walk %d: the purse shows %v, want %v", n, got, want)
			}
		}
	}
	for e, few := range map[api.Errno]int{api.OK: 500, api.ErrShape: 20, api.ErrFull: 20, api.ErrTwice: 20, api.ErrCoin: 20, api.ErrSeal: 20, api.ErrSum: 5, api.ErrEmpty: 3} {
		if told[e] < few {
			t.Errorf("the walks came to the error %d only %d times", e, told[e])
		}
	}
	t.Log(told)
}

func TestStrangeBlocksP1(t *testing.T) {
	r := rand.New(rand.NewSource(2))
	pick := func() int { return strange[r.Intn(len(strange))] }
	numbers := func(n int) []int {
		l := make([]int, r.Intn(n))
		for j := range l {
			l[j] = pick()
		}
		return l
	}
	p, m := begin(t, 10, 3), &model{seed: 10, gap: 3}
	for range 20000 {
		list := make([]api.Tx, r.Intn(8))
		for n := range list {
			list[n] = tx(pick(), manyIns(r.Intn(12), in(pick(), pick(), numbers(7)...)), manyOuts(r.Intn(10), out(pick(), pick())))
		}
		wantE, wantN := m.connect(list)
		if e, n := p.Connect(list); e != wantE || n != wantN {
			t.Fatalf("Connect(%v) = %d, %d, want %d, %d", list, e, n, wantE, wantN)
		}
		if r.Intn(20) == 0 {
			p.Disconnect()
			m.blocks = m.blocks[:max(0, len(m.blocks)-1)]
		}
	}
	if got, want := look(p), m.view(); !reflect.DeepEqual(got, want) {
		t.Errorf("the purse shows %v, want %v", got, want)
	}
}
