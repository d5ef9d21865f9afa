package purse_test

import (
	"reflect"
	"slices"
	"testing"

	"purse/api"
	"purse/purse"
)

// owner is a key of some seed.
type owner struct{ seed, branch, index int }

func receive(seed int, index int) owner { return owner{seed, api.Receive, index} }

func change(seed int, index int) owner { return owner{seed, api.Change, index} }

func (o owner) address() int {
	a, _ := purse.Address(o.seed, o.branch, o.index)
	return a
}

func (o owner) gets(value int) api.Out { return out(o.address(), value) }

func begin(t *testing.T, seed int, gap int) *purse.Purse {
	t.Helper()
	p, e := purse.New(seed, gap)
	if p == nil || e != api.OK {
		t.Fatalf("New(%d, %d) = %v, %d", seed, gap, p, e)
	}
	return p
}

// sealed gives each input the seal of its owner.
func sealed(x api.Tx, owners ...owner) api.Tx {
	x.Ins = slices.Clone(x.Ins)
	for i, o := range owners {
		x.Ins[i].Seal, _ = purse.Seal(o.seed, o.branch, o.index, purse.Id(x))
	}
	return x
}

func block(list ...api.Tx) []api.Tx { return list }

func mint(tag int, outs ...api.Out) api.Tx { return tx(tag, nil, outs) }

func connect(t *testing.T, p *purse.Purse, block ...api.Tx) {
	t.Helper()
	if e, n := p.Connect(block); e != api.OK || n != 0 {
		t.Fatalf("Connect(%v) = %d, %d, want 0, 0", block, e, n)
	}
}

func refuses(t *testing.T, p *purse.Purse, block []api.Tx, e api.Errno, n int) {
	t.Helper()
	was := look(p)
	if gotE, gotN := p.Connect(block); gotE != e || gotN != n {
		t.Errorf("Connect(%v) = %d, %d, want %d, %d", block, gotE, gotN, e, n)
	}
	if now := look(p); !reflect.DeepEqual(now, was) {
		t.Errorf("Connect(%v) was refused, but %v is %v now", block, was, now)
	}
}

func disconnect(t *testing.T, p *purse.Purse) {
	t.Helper()
	if e := p.Disconnect(); e != api.OK {
		t.Fatalf("Disconnect() = %d", e)
	}
}

// view is all that a purse tells of itself.
type view struct {
	height, receive, change, all, free int
	coins                              []api.Coin
}

func look(p *purse.Purse) view {
	r, c := p.Windows()
	all, free := p.Balance()
	return view{p.Height(), r, c, all, free, append([]api.Coin{}, p.Coins()...)}
}

func coin(x api.Tx, at int, o owner) api.Coin {
	return api.Coin{Id: purse.Id(x), At: at, To: x.Outs[at].To, Value: x.Outs[at].Value, Branch: o.branch, Index: o.index}
}

// shows holds a purse against the wanted numbers; the order of the wanted coins does not matter.
func shows(t *testing.T, p *purse.Purse, height int, receive int, change int, coins ...api.Coin) {
	t.Helper()
	coins = append([]api.Coin{}, coins...)
	slices.SortFunc(coins, func(a, b api.Coin) int {
		if a.Id != b.Id {
			return a.Id - b.Id
		}
		return a.At - b.At
	})
	sum := 0
	for _, c := range coins {
		sum += c.Value
	}
	want := view{height, receive, change, sum, sum, coins}
	if got := look(p); !reflect.DeepEqual(got, want) {
		t.Errorf("the purse shows %v, want %v", got, want)
	}
}

func TestNewP5(t *testing.T) {
	for _, seed := range strange {
		for _, gap := range append(strange, 3, 19, api.MaxGap, api.MaxGap+1) {
			p, e := purse.New(seed, gap)
			if good := mark(seed) && gap >= 1 && gap <= 20; !good {
				if p != nil || e != api.ErrArg {
					t.Errorf("New(%d, %d) = %v, %d, want nil, ErrArg", seed, gap, p, e)
				}
			} else if p == nil || e != api.OK {
				t.Errorf("New(%d, %d) = %v, %d, want a purse", seed, gap, p, e)
			} else {
				shows(t, p, 0, gap, gap)
			}
		}
	}
}

func TestBlockSizesP6(t *testing.T) {
	p := begin(t, 10, 3)
	connect(t, p)
	connect(t, p, block()...)
	shows(t, p, 2, 3, 3)
	mine := receive(10, 0)
	list := block(mint(1, mine.gets(100)))
	for len(list) < api.MaxTxs+1 {
		before := list[len(list)-1]
		list = append(list, sealed(tx(1, ins(in(purse.Id(before), 0)), before.Outs), mine))
	}
	refuses(t, p, list, api.ErrShape, 0)
	refuses(t, p, append(block(mint(-1, mine.gets(9))), list...), api.ErrShape, 0)
	refuses(t, p, make([]api.Tx, 100000), api.ErrShape, 0)
	connect(t, p, list[:api.MaxTxs]...)
	shows(t, p, 3, 4, 3, coin(list[api.MaxTxs-1], 0, mine))
	connect(t, p, list[api.MaxTxs])
	shows(t, p, 4, 4, 3, coin(list[api.MaxTxs], 0, mine))
}

func TestFullP6(t *testing.T) {
	p := begin(t, 10, 1)
	mine := receive(10, 0)
	first := mint(0, mine.gets(10))
	connect(t, p, first)
	for h := 1; h < api.MaxBlocks; h++ {
		connect(t, p)
	}
	shows(t, p, api.MaxBlocks, 2, 1, coin(first, 0, mine))
	refuses(t, p, nil, api.ErrFull, 0)
	refuses(t, p, block(mint(1, mine.gets(10))), api.ErrFull, 0)
	refuses(t, p, make([]api.Tx, api.MaxTxs+1), api.ErrFull, 0)
	refuses(t, p, block(mint(1, mine.gets(10)), first), api.ErrFull, 0)
	disconnect(t, p)
	last := mint(1, mine.gets(11))
	connect(t, p, last)
	shows(t, p, api.MaxBlocks, 2, 1, coin(first, 0, mine), coin(last, 0, mine))
	for h := api.MaxBlocks - 1; h >= 0; h-- {
		disconnect(t, p)
		if p.Height() != h {
			t.Fatalf("height %d, want %d", p.Height(), h)
		}
	}
	shows(t, p, 0, 1, 1)
}

func TestExamplesP6(t *testing.T) {
	p := begin(t, 0, 3)
	refuses(t, p, block(mint(0, out(5, 10)), mint(1, out(5, 10))), api.ErrShape, 1)
	connect(t, p, mint(0, out(5, 10)))
	refuses(t, p, block(mint(0, out(5, 10))), api.ErrTwice, 0)
	refuses(t, p, block(tx(0, ins(in(18216, 1)), outs(out(5, 10)))), api.ErrCoin, 0)
}

// Each wrong transaction stands alone, behind a good one, and ahead of one with another fault.
func TestErrorsP6(t *testing.T) {
	mine, next, other := receive(10, 0), change(10, 2), receive(11, 7)
	base := mint(1, mine.gets(100), next.gets(50), other.gets(30), mine.gets(20))
	id := purse.Id(base)
	a, b, c := in(id, 0), in(id, 1), in(id, 2)
	seal0 := make([]int, api.SealLen)
	spent := sealed(tx(9, ins(in(id, 3)), outs(mine.gets(20))), mine)
	pay := func(ins []api.In, outs ...api.Out) api.Tx { return tx(5, ins, outs) }
	for _, x := range []struct {
		name string
		e    api.Errno
		tx   api.Tx
	}{
		{"nothing", api.ErrShape, api.Tx{}},
		{"no outputs", api.ErrShape, pay(ins(a))},
		{"a wrong output, no coin", api.ErrShape, pay(ins(in(id, 7)), out(5, 9))},
		{"a wrong tag", api.ErrShape, sealed(tx(-1, ins(a), outs(mine.gets(100))), mine)},
		{"a wrong input", api.ErrShape, pay(ins(in(id, 8)), out(5, 10))},
		{"a seal of four", api.ErrShape, pay(ins(in(id, 0, 1, 2, 3, 4)), out(5, 10))},
		{"too many inputs", api.ErrShape, pay(manyIns(api.MaxIns+1, a), out(5, 10))},
		{"in the chain", api.ErrTwice, spent},
		{"in the chain, with other seals", api.ErrTwice, tx(9, ins(in(id, 3, seal0...)), outs(mine.gets(20)))},
		{"no such id", api.ErrCoin, pay(ins(in((id+1)%api.Base, 0)), out(5, 10))},
		{"no such output", api.ErrCoin, pay(ins(in(id, 4)), out(5, 10))},
		{"the last output that there may be", api.ErrCoin, pay(ins(in(id, api.MaxOuts-1)), out(5, 10))},
		{"spent in the chain", api.ErrCoin, sealed(pay(ins(in(id, 3)), mine.gets(20)), mine)},
		{"one coin twice", api.ErrCoin, sealed(pay(ins(a, a), out(5, 10)), mine, mine)},
		{"one coin twice, another between", api.ErrCoin, sealed(pay(ins(a, b, a), out(5, 10)), mine, next, mine)},
		{"one coin twice, too much out", api.ErrCoin, sealed(pay(ins(a, a), out(5, 201)), mine, mine)},
		{"no seal, then no coin", api.ErrCoin, pay(ins(a, in(id, 4)), out(5, 10))},
		{"nothing right", api.ErrCoin, pay(ins(in(id, 4, seal0...)), out(5, api.MaxValue))},
		{"no seal", api.ErrSeal, pay(ins(a), mine.gets(100))},
		{"an empty seal", api.ErrSeal, pay(ins(api.In{Id: id, Seal: []int{}}), mine.gets(100))},
		{"noughts as seal", api.ErrSeal, pay(ins(in(id, 0, seal0...)), mine.gets(100))},
		{"the seal of another key", api.ErrSeal, sealed(pay(ins(a), mine.gets(100)), next)},
		{"the seals swapped", api.ErrSeal, sealed(pay(ins(a, b), mine.gets(100)), next, mine)},
		{"the last seal wrong", api.ErrSeal, sealed(pay(ins(a, b, c), mine.gets(100)), mine, next, next)},
		{"the last seal missing", api.ErrSeal, sealed(pay(ins(a, b, c), mine.gets(100)), mine, next)},
		{"the first seal missing, too much out", api.ErrSeal, sealed(pay(ins(a), mine.gets(101)))},
		{"one more out", api.ErrSum, sealed(pay(ins(a), mine.gets(101)), mine)},
		{"one more out, of three", api.ErrSum, sealed(pay(ins(c, a, b), out(5, 100), out(6, 71), out(7, 10)), other, mine, next)},
		{"the most out", api.ErrSum, sealed(pay(ins(a), manyOuts(api.MaxOuts, out(5, api.MaxValue))...), mine)},
	} {
		t.Run(x.name, func(t *testing.T) {
			p := begin(t, 10, 3)
			connect(t, p, base)
			connect(t, p, spent)
			minted := mint(2, mine.gets(10))
			good := sealed(tx(3, ins(in(purse.Id(minted), 0)), outs(next.gets(10))), mine)
			refuses(t, p, block(x.tx), x.e, 0)
			refuses(t, p, block(x.tx, api.Tx{}), x.e, 0)
			refuses(t, p, block(minted, x.tx, minted), x.e, 1)
			refuses(t, p, block(minted, good, x.tx, x.tx), x.e, 2)
			connect(t, p, minted, good)
			refuses(t, p, block(x.tx), x.e, 0)
			disconnect(t, p)
			shows(t, p, 2, 4, 6, coin(base, 0, mine), coin(base, 1, next), coin(spent, 0, mine))
		})
	}
}

func TestMintP6(t *testing.T) {
	p := begin(t, 10, 3)
	mine := receive(10, 0)
	a := mint(1, mine.gets(api.MaxValue))
	b := sealed(tx(2, ins(in(purse.Id(a), 0)), outs(mine.gets(10))), mine)
	refuses(t, p, block(a, mint(2, mine.gets(10))), api.ErrShape, 1)
	refuses(t, p, block(a, a), api.ErrShape, 1)
	refuses(t, p, block(a, b, mint(3, mine.gets(10))), api.ErrShape, 2)
	connect(t, p, a, b)
	shows(t, p, 1, 4, 3, coin(b, 0, mine))
	refuses(t, p, block(a), api.ErrTwice, 0)
	refuses(t, p, block(mint(3, mine.gets(10)), a), api.ErrShape, 1)
	connect(t, p, mint(2, mine.gets(10)))
}

// The ids are few: transactions that are not the same may have the same one.
func TestSameIdP6(t *testing.T) {
	p := begin(t, 10, 3)
	mine := receive(10, 0)
	a := mint(1, mine.gets(10))
	x := tagged(t, mint(0, mine.gets(77), out(5, 10)), purse.Id(a))
	b := sealed(tx(4, ins(in(purse.Id(a), 0)), outs(mine.gets(10))), mine)
	connect(t, p, a)
	refuses(t, p, block(x), api.ErrTwice, 0)
	connect(t, p, b)
	refuses(t, p, block(x), api.ErrTwice, 0)
	disconnect(t, p)
	disconnect(t, p)
	connect(t, p, x)
	refuses(t, p, block(a), api.ErrTwice, 0)
	shows(t, p, 1, 4, 3, coin(x, 0, mine))
	connect(t, p, b)
	shows(t, p, 2, 4, 3, coin(b, 0, mine))
	y := tagged(t, tx(0, ins(in(purse.Id(b), 0)), outs(mine.gets(10))), 4711)
	z := tagged(t, tx(0, ins(in(4711, 0)), outs(mine.gets(10))), 4711)
	refuses(t, p, block(sealed(y, mine), sealed(z, mine)), api.ErrTwice, 1)
}

// tagged gives a transaction a tag with which it has the id.
func tagged(t *testing.T, x api.Tx, id int) api.Tx {
	t.Helper()
	for x.Tag = range api.Base {
		if purse.Id(x) == id {
			return x
		}
	}
	t.Fatalf("no tag brings %v to the id %d", x, id)
	return x
}

func TestIdNoughtP6(t *testing.T) {
	p := begin(t, 10, 3)
	mine := receive(10, 0)
	a := tagged(t, mint(0, mine.gets(50)), 0)
	connect(t, p, a)
	shows(t, p, 1, 4, 3, coin(a, 0, mine))
	refuses(t, p, block(a), api.ErrTwice, 0)
	b := sealed(tx(1, ins(in(0, 0)), outs(mine.gets(50))), mine)
	connect(t, p, b)
	shows(t, p, 2, 4, 3, coin(b, 0, mine))
}

// An output can be spent from the next transaction on: a transaction that names itself names no coin.
func TestNamesItselfP6(t *testing.T) {
	p := begin(t, 10, 3)
	mine := receive(10, 0)
	connect(t, p, mint(1, mine.gets(50)))
	x := sealed(tagged(t, tx(0, ins(in(4711, 0)), outs(mine.gets(50))), 4711), mine)
	refuses(t, p, block(x), api.ErrCoin, 0)
	refuses(t, p, block(mint(2, mine.gets(10)), x), api.ErrCoin, 1)
}

func TestSpendWithinBlockP6(t *testing.T) {
	p := begin(t, 10, 3)
	mine, next, other := receive(10, 0), change(10, 0), receive(11, 0)
	a := mint(1, mine.gets(100), other.gets(50))
	b := sealed(tx(2, ins(in(purse.Id(a), 1), in(purse.Id(a), 0)), outs(next.gets(140), mine.gets(10))), other, mine)
	c := sealed(tx(3, ins(in(purse.Id(b), 1)), outs(mine.gets(10))), mine)
	refuses(t, p, block(b, a), api.ErrCoin, 0)
	refuses(t, p, block(a, c, b), api.ErrCoin, 1)
	connect(t, p, a, b, c)
	shows(t, p, 1, 4, 4, coin(b, 0, next), coin(c, 0, mine))
	disconnect(t, p)
	shows(t, p, 0, 3, 3)
	connect(t, p, a)
	connect(t, p, b)
	connect(t, p, c)
	shows(t, p, 3, 4, 4, coin(b, 0, next), coin(c, 0, mine))
}

func TestSpendTwiceP6(t *testing.T) {
	p := begin(t, 10, 3)
	mine := receive(10, 0)
	a := mint(1, mine.gets(100), mine.gets(100))
	spend := func(tag int, at ...int) api.Tx {
		x := tx(tag, nil, outs(mine.gets(100)))
		var owners []owner
		for _, n := range at {
			x.Ins = append(x.Ins, in(purse.Id(a), n))
			owners = append(owners, mine)
		}
		return sealed(x, owners...)
	}
	connect(t, p, a)
	refuses(t, p, block(spend(1, 0, 0)), api.ErrCoin, 0)
	refuses(t, p, block(spend(1, 1, 0, 1)), api.ErrCoin, 0)
	refuses(t, p, block(spend(1, 0), spend(2, 0)), api.ErrCoin, 1)
	refuses(t, p, block(spend(1, 0), spend(2, 1, 0)), api.ErrCoin, 1)
	connect(t, p, spend(1, 0))
	refuses(t, p, block(spend(2, 0)), api.ErrCoin, 0)
	connect(t, p)
	refuses(t, p, block(spend(2, 1, 0)), api.ErrCoin, 0)
	connect(t, p, spend(2, 1))
	shows(t, p, 4, 4, 3, coin(spend(1, 0), 0, mine), coin(spend(2, 1), 0, mine))
	for range 3 {
		disconnect(t, p)
	}
	connect(t, p, spend(2, 1, 0))
	shows(t, p, 2, 4, 3, coin(spend(2, 1, 0), 0, mine))
}

func TestSumsP6(t *testing.T) {
	p := begin(t, 10, 3)
	mine := receive(10, 0)
	a := mint(1, manyOuts(api.MaxOuts, mine.gets(api.MaxValue))...)
	b := mint(2, mine.gets(20), mine.gets(10))
	connect(t, p, a)
	connect(t, p, b)
	all := tx(3, nil, manyOuts(api.MaxOuts, mine.gets(api.MaxValue)))
	for at := range api.MaxOuts {
		all.Ins = append(all.Ins, in(purse.Id(a), at))
	}
	owners := slices.Repeat([]owner{mine}, api.MaxIns)
	less := all
	less.Ins = append(all.Ins[:api.MaxOuts-1:api.MaxOuts-1], in(purse.Id(b), 0))
	refuses(t, p, block(sealed(less, owners[:api.MaxOuts]...)), api.ErrSum, 0)
	most := all
	most.Ins = append(all.Ins, in(purse.Id(b), 0), in(purse.Id(b), 1))
	connect(t, p, sealed(most, owners...))
	disconnect(t, p)
	all = sealed(all, owners[:api.MaxOuts]...)
	connect(t, p, all)
	if sum, free := p.Balance(); sum != 30+api.MaxOuts*api.MaxValue || free != sum {
		t.Errorf("balance %d, %d", sum, free)
	}
	refuses(t, p, block(sealed(tx(4, ins(in(purse.Id(b), 0)), outs(out(5, 10), out(5, 11))), mine)), api.ErrSum, 0)
	connect(t, p, sealed(tx(4, ins(in(purse.Id(b), 0)), outs(out(5, 10), out(5, 10))), mine))
	connect(t, p, sealed(tx(4, ins(in(purse.Id(b), 1)), outs(out(5, 10))), mine))
}

func TestDisconnectP7(t *testing.T) {
	p := begin(t, 10, 3)
	for range 3 {
		if e := p.Disconnect(); e != api.ErrEmpty {
			t.Errorf("Disconnect of the empty chain = %d", e)
		}
		shows(t, p, 0, 3, 3)
	}
	mine, next := receive(10, 0), change(10, 1)
	a := mint(1, mine.gets(100), mine.gets(50))
	b := sealed(tx(2, ins(in(purse.Id(a), 0)), outs(next.gets(90))), mine)
	c := sealed(tx(3, ins(in(purse.Id(b), 0), in(purse.Id(a), 1)), outs(mine.gets(140))), next, mine)
	blocks := [][]api.Tx{{a}, {}, {b}, {c}}
	views := []view{look(p)}
	for range 3 {
		for _, b := range blocks {
			connect(t, p, b...)
			if len(views) <= len(blocks) {
				views = append(views, look(p))
			}
			if v := look(p); !reflect.DeepEqual(v, views[p.Height()]) {
				t.Errorf("at the height %d: %v, want %v", p.Height(), v, views[p.Height()])
			}
		}
		shows(t, p, 4, 4, 5, coin(c, 0, mine))
		for h := 3; h >= 0; h-- {
			disconnect(t, p)
			if v := look(p); !reflect.DeepEqual(v, views[h]) {
				t.Errorf("back at the height %d: %v, want %v", h, v, views[h])
			}
		}
	}
	shows(t, p, 0, 3, 3)
	if e := p.Disconnect(); e != api.ErrEmpty {
		t.Errorf("Disconnect of the chain that is empty again = %d", e)
	}
	refuses(t, p, block(b), api.ErrCoin, 0)
	connect(t, p, a, b, c)
	shows(t, p, 1, 4, 5, coin(c, 0, mine))
	disconnect(t, p)
	shows(t, p, 0, 3, 3)
}

func TestExamplesP8(t *testing.T) {
	p := begin(t, 0, 3)
	shows(t, p, 0, 3, 3)
	five, two := receive(0, 5), receive(0, 2)
	a, b := mint(1, five.gets(100)), mint(2, two.gets(30))
	connect(t, p, a)
	shows(t, p, 1, 3, 3)
	connect(t, p, b)
	shows(t, p, 2, 9, 3, coin(a, 0, five), coin(b, 0, two))
	disconnect(t, p)
	shows(t, p, 1, 3, 3)
	p = begin(t, 0, 20)
	for i, want := range []int{40, 60, 80, 100} {
		connect(t, p, mint(i, receive(0, 19+20*i).gets(10)))
		if r, c := p.Windows(); r != want || c != 20 {
			t.Errorf("windows %d, %d, want %d, 20", r, c, want)
		}
	}
}

func TestWindowsP8(t *testing.T) {
	for _, c := range []struct {
		gap, branch  int
		paid         []int
		window, seen int
	}{
		{3, 0, nil, 3, 0},
		{3, 0, []int{0}, 4, 1},
		{3, 1, []int{2}, 6, 1},
		{3, 0, []int{3}, 3, 0},
		{3, 0, []int{0, 1, 2}, 6, 3},
		{3, 1, []int{2, 1, 0}, 6, 3},
		{3, 0, []int{5, 2}, 9, 2},
		{3, 0, []int{6, 2}, 6, 1},
		{3, 1, []int{14, 11, 8, 5, 2}, 18, 5},
		{3, 1, []int{2, 5, 9, 11}, 9, 2},
		{1, 0, []int{0}, 2, 1},
		{1, 0, []int{1}, 1, 0},
		{1, 1, []int{7, 6, 5, 4, 3, 2, 1, 0}, 9, 8},
		{20, 0, []int{19, 39, 59, 78}, 99, 4},
		{20, 0, []int{19, 39, 59, 79}, 100, 4},
		{20, 1, []int{19, 39, 59, 78, 98}, 100, 5},
		{20, 1, []int{19, 39, 59, 78, 99}, 99, 4},
		{20, 1, []int{99, 19, 39, 59, 79}, 100, 5},
		{20, 1, []int{20}, 20, 0},
		{20, 0, []int{99}, 20, 0},
		{19, 0, []int{18, 37, 56, 75, 94}, 100, 5},
		{19, 0, []int{18, 37, 56, 75, 95}, 95, 4},
	} {
		p, q := begin(t, 77, c.gap), begin(t, 77, c.gap)
		var list []api.Out
		for i, index := range c.paid {
			o := owner{77, c.branch, index}.gets(10)
			list = append(list, o)
			connect(t, p, mint(i, o))
		}
		if len(list) > 0 {
			connect(t, q, mint(1, list...))
		}
		want := [2]int{c.gap, c.gap}
		want[c.branch] = c.window
		for _, p := range []*purse.Purse{p, q} {
			r, ch := p.Windows()
			if all, free := p.Balance(); [2]int{r, ch} != want || len(p.Coins()) != c.seen || all != 10*c.seen || free != all {
				t.Errorf("gap %d, branch %d, paid %v: windows %d, %d, balance %d, %d, %d coins; want windows %v, %d coins", c.gap, c.branch, c.paid, r, ch, all, free, len(p.Coins()), want, c.seen)
			}
		}
	}
}

// A window lets go, block by block, of what it was led to.
func TestWindowsGoBackP8(t *testing.T) {
	p := begin(t, 77, 4)
	windows := []int{4, 4, 4, 4, 20}
	paid := []int{15, 11, 7, 3}
	for range 2 {
		for i, index := range paid {
			connect(t, p, mint(i, change(77, index).gets(10+index)))
			if _, c := p.Windows(); c != windows[i+1] {
				t.Errorf("%v paid: window %d, want %d", paid[:i+1], c, windows[i+1])
			}
		}
		if len(p.Coins()) != 4 {
			t.Errorf("coins %v", p.Coins())
		}
		for i := len(paid) - 1; i >= 0; i-- {
			disconnect(t, p)
			shows(t, p, i, 4, 4)
		}
	}
}

func TestSpentCountsP8(t *testing.T) {
	p := begin(t, 77, 3)
	two, five := receive(77, 2), receive(77, 5)
	a := mint(1, two.gets(50), five.gets(60))
	b := sealed(tx(2, ins(in(purse.Id(a), 0)), outs(out(5, 50))), two)
	c := sealed(tx(3, ins(in(purse.Id(a), 1)), outs(out(5, 60))), five)
	connect(t, p, a)
	connect(t, p, b)
	shows(t, p, 2, 9, 3, coin(a, 1, five))
	connect(t, p, c)
	shows(t, p, 3, 9, 3)
	for range 3 {
		disconnect(t, p)
	}
	connect(t, p, a, b, c)
	shows(t, p, 1, 9, 3)
}

// With the seed 356 Receive 4 and Change 7 have one address, with 527 Receive 9 and Change 1,
// with 3650 Receive 0 and Receive 2 (worked out beside the program).
func TestOneAddressP8P9(t *testing.T) {
	for _, c := range []struct {
		seed, gap       int
		paid            []owner
		receive, change int
		key             owner
		found           bool
	}{
		{356, 4, []owner{receive(356, 4)}, 4, 4, owner{}, false},
		{356, 5, []owner{receive(356, 4)}, 10, 5, receive(356, 4), true},
		{356, 5, []owner{change(356, 7)}, 10, 5, receive(356, 4), true},
		{356, 7, []owner{change(356, 7)}, 12, 7, receive(356, 4), true},
		{356, 8, []owner{change(356, 7)}, 13, 16, receive(356, 4), true},
		{356, 4, []owner{change(356, 7), change(356, 3)}, 4, 12, change(356, 7), true},
		{356, 4, []owner{change(356, 7), change(356, 3), receive(356, 0)}, 9, 12, receive(356, 4), true},
		{527, 3, []owner{receive(527, 9)}, 3, 5, change(527, 1), true},
		{527, 3, []owner{receive(527, 9), receive(527, 2), receive(527, 5)}, 9, 5, change(527, 1), true},
		{527, 3, []owner{change(527, 1), receive(527, 2), receive(527, 5), receive(527, 8)}, 13, 5, receive(527, 9), true},
		{3650, 1, []owner{receive(3650, 2)}, 2, 1, receive(3650, 0), true},
		{3650, 2, []owner{receive(3650, 2)}, 5, 2, receive(3650, 0), true},
		{3650, 3, []owner{receive(3650, 0)}, 6, 3, receive(3650, 0), true},
	} {
		p := begin(t, c.seed, c.gap)
		for i, o := range c.paid {
			connect(t, p, mint(i, o.gets(100)))
		}
		first := coin(mint(0, c.paid[0].gets(100)), 0, c.key)
		if r, ch := p.Windows(); r != c.receive || ch != c.change || slices.Contains(p.Coins(), first) != c.found {
			t.Errorf("gap %d, paid %v: windows %d, %d, want %d, %d; coins %v, want %v", c.gap, c.paid, r, ch, c.receive, c.change, p.Coins(), first)
		}
	}
}

func TestKeyGoesBackP9(t *testing.T) {
	p := begin(t, 527, 3)
	a := mint(1, change(527, 1).gets(100))
	connect(t, p, a)
	shows(t, p, 1, 3, 5, coin(a, 0, change(527, 1)))
	b := mint(2, receive(527, 2).gets(10), receive(527, 5).gets(20), receive(527, 8).gets(30))
	connect(t, p, b)
	shows(t, p, 2, 13, 5, coin(a, 0, receive(527, 9)), coin(b, 0, receive(527, 2)), coin(b, 1, receive(527, 5)), coin(b, 2, receive(527, 8)))
	disconnect(t, p)
	shows(t, p, 1, 3, 5, coin(a, 0, change(527, 1)))
	c := sealed(tx(3, ins(in(purse.Id(a), 0)), outs(out(5, 10))), receive(527, 9))
	connect(t, p, c)
	shows(t, p, 2, 3, 5)
}

func TestCoinsInOrderP9(t *testing.T) {
	p := begin(t, 10, 5)
	var want []api.Coin
	for h := range api.MaxBlocks {
		x := mint(1000-7*h, change(10, h%5).gets(20+h), receive(11, 0).gets(10), receive(10, h%4).gets(300-h))
		connect(t, p, x)
		want = append(want, coin(x, 0, change(10, h%5)), coin(x, 2, receive(10, h%4)))
	}
	shows(t, p, api.MaxBlocks, 9, 10, want...)
	for range api.MaxBlocks - 3 {
		disconnect(t, p)
	}
	shows(t, p, 3, 8, 8, want[:6]...)
}

// The greatest chain: every block full, every transaction with as many outputs as may be.
func TestGreatestChainP9(t *testing.T) {
	p := begin(t, 10, 20)
	first := look(p)
	for h := range api.MaxBlocks {
		list := block(mint(h, manyOuts(api.MaxOuts, receive(10, 3).gets(api.MaxValue))...))
		for at := range api.MaxTxs - 1 {
			list = append(list, sealed(tx(h, ins(in(purse.Id(list[0]), at)), manyOuts(api.MaxOuts, change(10, at).gets(api.MaxValue/api.MaxOuts))), receive(10, 3)))
		}
		connect(t, p, list...)
	}
	coins := p.Coins()
	all, free := p.Balance()
	if all != api.MaxBlocks*api.MaxOuts*api.MaxValue || free != all || len(coins) != api.MaxBlocks*(api.MaxTxs*api.MaxOuts-api.MaxTxs+1) {
		t.Errorf("balance %d, %d, %d coins", all, free, len(coins))
	}
	for i := 1; i < len(coins); i++ {
		if a, b := coins[i-1], coins[i]; a.Id > b.Id || (a.Id == b.Id && a.At >= b.At) {
			t.Fatalf("%v stands ahead of %v", a, b)
		}
	}
	for range api.MaxBlocks {
		disconnect(t, p)
	}
	if last := look(p); !reflect.DeepEqual(last, first) {
		t.Errorf("%v is left, want %v", last, first)
	}
}

// Behind every list of the block there is spare room, which must stay as it is too.
func TestConnectHandedInStaysP2(t *testing.T) {
	mine := receive(10, 0)
	a := mint(1, mine.gets(100), mine.gets(50))
	make := func() []api.Tx {
		b := sealed(tx(2, ins(in(purse.Id(a), 0), in(7, 7)), outs(mine.gets(60), mine.gets(40), out(8, 88))))
		b.Outs = b.Outs[:2]
		b.Ins = b.Ins[:1]
		seal, _ := purse.Seal(10, 0, 0, purse.Id(b))
		b.Ins[0].Seal = append(seal, 71, 72, 73)[:api.SealLen]
		return append(block(a, b), mint(9, out(9, 99)))[:2]
	}
	whole := func(list []api.Tx) []api.Tx {
		list = slices.Clone(list[:3])
		list[1].Outs = list[1].Outs[:3]
		list[1].Ins = slices.Clone(list[1].Ins[:2])
		list[1].Ins[0].Seal = list[1].Ins[0].Seal[:api.SealLen+3]
		return list
	}
	given := make()
	p := begin(t, 10, 3)
	connect(t, p, given...)
	p.Coins()
	refuses(t, p, given, api.ErrTwice, 0)
	disconnect(t, p)
	connect(t, p, given...)
	if !reflect.DeepEqual(whole(given), whole(make())) {
		t.Errorf("%v was handed in, it is %v now", whole(make()), whole(given))
	}
	was := look(p)
	given[1].Outs[0] = out(0, 0)
	given[1].Ins[0].Id = 5
	given[1].Ins[0].Seal[0] = 5
	given[0], given[1] = api.Tx{}, api.Tx{}
	if now := look(p); !reflect.DeepEqual(now, was) {
		t.Errorf("%v became %v by writing into what was handed in", was, now)
	}
	connect(t, p)
	disconnect(t, p)
	disconnect(t, p)
	shows(t, p, 0, 3, 3)
}

func TestCoinsAreFreshP2(t *testing.T) {
	p := begin(t, 10, 3)
	mine := receive(10, 0)
	for n := range 5 {
		connect(t, p, mint(n, mine.gets(10+n)))
		was := look(p)
		one, two := p.Coins(), p.Coins()
		whole := one[:cap(one)]
		for i := range whole {
			whole[i] = api.Coin{Id: -1, At: -1, To: -1, Value: -1, Branch: -1, Index: -1}
		}
		if now := look(p); !slices.Equal(two, was.coins) || !reflect.DeepEqual(now, was) {
			t.Errorf("writing into one list of coins changed %v to %v and %v", was, two, now)
		}
	}
}

func TestPursesAreApartP2(t *testing.T) {
	p, q, r := begin(t, 10, 3), begin(t, 10, 3), begin(t, 11, 2)
	mine, other := receive(10, 0), change(11, 1)
	a := mint(1, mine.gets(100), other.gets(70))
	connect(t, p, a)
	shows(t, q, 0, 3, 3)
	shows(t, r, 0, 2, 2)
	connect(t, r, a)
	shows(t, p, 1, 4, 3, coin(a, 0, mine))
	shows(t, r, 1, 2, 4, coin(a, 1, other))
	b := sealed(tx(2, ins(in(purse.Id(a), 0)), outs(other.gets(100))), mine)
	refuses(t, q, block(b), api.ErrCoin, 0)
	connect(t, p, b)
	connect(t, q)
	disconnect(t, r)
	shows(t, p, 2, 4, 3)
	shows(t, q, 1, 3, 3)
	shows(t, r, 0, 2, 2)
}
