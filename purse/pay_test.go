package purse_test

import (
	"reflect"
	"slices"
	"testing"

	"purse/api"
	"purse/purse"
)

// with begins a purse whose keys Receive 0, 1, .. are paid these values, each in a block of its own.
func with(t *testing.T, seed int, gap int, values ...int) (*purse.Purse, []api.Coin) {
	t.Helper()
	p := begin(t, seed, gap)
	var coins []api.Coin
	for i, v := range values {
		o := receive(seed, i)
		x := mint(i, o.gets(v))
		connect(t, p, x)
		coins = append(coins, coin(x, 0, o))
	}
	return p, coins
}

// ask makes an output of each value.
func ask(values ...int) []api.Out {
	var list []api.Out
	for i, v := range values {
		list = append(list, out(1000+i, v))
	}
	return list
}

func takes(x *api.Paid, coins ...api.Coin) {
	for _, c := range coins {
		x.Tx.Ins = append(x.Tx.Ins, in(c.Id, c.At))
		x.Keys = append(x.Keys, api.Key{Branch: c.Branch, Index: c.Index})
	}
}

// plain is a payment without change.
func plain(number int, tag int, list []api.Out, coins ...api.Coin) api.Paid {
	x := api.Paid{Number: number, Tx: tx(tag, nil, list), Change: -1}
	takes(&x, coins...)
	return x
}

// changed is a payment with change.
func changed(number int, tag int, list []api.Out, back int, to owner, coins ...api.Coin) api.Paid {
	x := plain(number, tag, append(slices.Clone(list), to.gets(back)), coins...)
	x.Change = to.index
	return x
}

func pays(t *testing.T, p *purse.Purse, list []api.Out, rate int, tag int, want api.Paid) {
	t.Helper()
	if got, e := p.Pay(list, rate, tag); e != api.OK || !samePaid(got, want) {
		t.Fatalf("Pay(%v, %d, %d) = %v, %d, want %v, 0", list, rate, tag, got, e, want)
	}
}

func denies(t *testing.T, p *purse.Purse, list []api.Out, rate int, tag int, want api.Errno) {
	t.Helper()
	was := look(p)
	if got, e := p.Pay(list, rate, tag); e != want || !reflect.DeepEqual(got, api.Paid{}) {
		t.Errorf("Pay(%v, %d, %d) = %v, %d, want nothing, %d", list, rate, tag, got, e, want)
	}
	if now := look(p); !reflect.DeepEqual(now, was) {
		t.Errorf("Pay(%v, %d, %d) was refused, but %v is %v now", list, rate, tag, was, now)
	}
}

func abandons(t *testing.T, p *purse.Purse, number int, want api.Errno) {
	t.Helper()
	was := look(p)
	if e := p.Abandon(number); e != want {
		t.Errorf("Abandon(%d) = %d, want %d", number, e, want)
	}
	if now := look(p); want != api.OK && !reflect.DeepEqual(now, was) {
		t.Errorf("Abandon(%d) was refused, but %v is %v now", number, was, now)
	}
}

func balance(t *testing.T, p *purse.Purse, all int, free int) {
	t.Helper()
	if a, f := p.Balance(); a != all || f != free {
		t.Errorf("balance %d, %d, want %d, %d", a, f, all, free)
	}
}

// The values of each case are in the order of the candidates; they come into the chain from
// the first to the last, and once more from the last to the first.
func TestChosenP10(t *testing.T) {
	ten := func(value int) []int { return slices.Repeat([]int{value}, 10) }
	upTo := func(n int) []int {
		var list []int
		for i := range n {
			list = append(list, i)
		}
		return list
	}
	for _, c := range []struct {
		name   string
		values []int
		rate   int
		ask    []int
		places []int // of the values that are chosen; none: ErrFunds
		change int
	}{
		{"example 70", []int{100, 60, 40, 30}, 0, []int{70}, []int{2, 3}, 0},
		{"example 95", []int{100, 60, 40, 30}, 0, []int{95}, []int{0}, 0},
		{"example 200", []int{100, 60, 40, 30}, 1, []int{200}, nil, 0},
		{"example 111", []int{100, 60, 40, 30}, 1, []int{111}, []int{0, 3}, 0},
		{"example 129", []int{100, 60, 40, 30}, 1, []int{129}, []int{0, 1}, 10},
		{"the example's whole worth", []int{100, 60, 40, 30}, 1, []int{197}, []int{0, 1, 2, 3}, 0},
		{"one more than that", []int{100, 60, 40, 30}, 1, []int{198}, nil, 0},

		{"the target", []int{100}, 0, []int{100}, []int{0}, 0},
		{"one below the target", []int{100}, 0, []int{101}, nil, 0},
		{"the target and the slack", []int{100}, 0, []int{91}, []int{0}, 0},
		{"one beyond the slack", []int{100}, 0, []int{90}, []int{0}, 10},
		{"rate 3, the target", []int{100}, 3, []int{64}, []int{0}, 0},
		{"rate 3, one below", []int{100}, 3, []int{65}, nil, 0},
		{"rate 3, the slack", []int{100}, 3, []int{49}, []int{0}, 0},
		{"rate 3, one beyond", []int{100}, 3, []int{48}, []int{0}, 10},
		{"the greatest rate, the target", []int{20000}, 1000, []int{8000}, []int{0}, 0},
		{"the greatest rate, one below", []int{20000}, 1000, []int{8001}, nil, 0},
		{"the greatest rate, the slack", []int{20000}, 1000, []int{5991}, []int{0}, 0},
		{"the greatest rate, one beyond", []int{20000}, 1000, []int{5990}, []int{0}, 10},
		{"two outputs cost more", []int{100}, 3, []int{29, 29}, []int{0}, 0},
		{"two outputs cost too much", []int{100}, 3, []int{29, 30}, nil, 0},
		{"seven outputs", []int{200}, 2, []int{10, 10, 10, 10, 10, 10, 92}, []int{0}, 0},
		{"seven outputs, one too much", []int{200}, 2, []int{10, 10, 10, 10, 10, 10, 93}, nil, 0},

		{"no coin", nil, 0, []int{10}, nil, 0},
		{"a worth of 1", []int{300, 71}, 10, []int{181}, []int{0, 1}, 0},
		{"a worth of 0", []int{300, 70}, 10, []int{181}, nil, 0},
		{"a worth of 0 is not taken", []int{300, 70}, 10, []int{180}, []int{0}, 0},
		{"a worth below 0 is not taken", []int{300, 10}, 10, []int{180}, []int{0}, 0},
		{"no candidate", []int{70, 69, 10}, 10, []int{10}, nil, 0},

		{"the least sum", []int{105, 60, 40}, 0, []int{100}, []int{1, 2}, 0},
		{"the least sum, of one coin", []int{101, 60, 42}, 0, []int{100}, []int{0}, 0},
		{"not the fewest coins", []int{50, 20, 15, 11}, 0, []int{46}, []int{1, 2, 3}, 0},
		{"the sum of three", []int{70, 50, 40, 30, 10}, 0, []int{80}, []int{0, 4}, 0},
		{"tied at the first, not at the second", []int{70, 50, 40, 30, 10}, 0, []int{120}, []int{0, 1}, 0},
		{"none of the tied has the first", []int{90, 60, 50, 40, 30, 20}, 0, []int{100}, []int{1, 3}, 0},
		{"tied above the target", []int{60, 42, 40, 22}, 0, []int{81}, []int{0, 3}, 0},
		{"all the tied have the first", []int{100, 50, 30, 20}, 0, []int{150}, []int{0, 1}, 0},

		{"the eighth is searched", []int{80, 79, 78, 77, 76, 75, 74, 12}, 0, []int{92}, []int{0, 7}, 0},
		{"the ninth is not", []int{80, 79, 78, 77, 76, 75, 74, 73, 12}, 0, []int{92}, []int{0, 1}, 67},
		{"the eighth alone", []int{80, 79, 78, 77, 76, 75, 74, 12, 11}, 0, []int{12}, []int{7}, 0},
		{"the ninth alone is not looked at", []int{80, 79, 78, 77, 76, 75, 74, 73, 12}, 0, []int{12}, []int{0}, 68},
		{"all eight", []int{80, 79, 78, 77, 76, 75, 74, 73}, 0, []int{612}, []int{0, 1, 2, 3, 4, 5, 6, 7}, 0},
		{"all eight but one", []int{80, 79, 78, 77, 76, 75, 74, 73}, 0, []int{533}, []int{0, 2, 3, 4, 5, 6, 7}, 0},
		{"nine", []int{80, 79, 78, 77, 76, 75, 74, 73, 12}, 0, []int{613}, []int{0, 1, 2, 3, 4, 5, 6, 7, 8}, 11},

		{"as many as may be", ten(20), 0, []int{200}, upTo(10), 0},
		{"of ten one less than Dust is left", ten(20), 0, []int{191}, upTo(10), 0},
		{"of ten Dust is left", ten(20), 0, []int{190}, upTo(10), 10},
		{"rate 1, nine", ten(20), 1, []int{112}, upTo(9), 0},
		{"rate 1, ten, Dust is left", ten(20), 1, []int{113}, upTo(10), 10},
		{"rate 1, ten, one less is left", ten(20), 1, []int{114}, upTo(10), 0},
		{"rate 1, ten, too little for an output", ten(20), 1, []int{124}, upTo(10), 0},
		{"ten of eleven", append(ten(20), 19), 0, []int{200}, upTo(10), 0},
		{"eleven are needed", append(ten(20), 19), 0, []int{201}, nil, 0},
		{"eleven are needed for the rate", append(ten(20), 19), 1, []int{126}, nil, 0},
		{"ten and a great one", append([]int{1000}, ten(20)...), 0, []int{1180}, upTo(10), 0},
		{"ten and a great one, one more", append([]int{1000}, ten(20)...), 0, []int{1181}, nil, 0},

		{"the least value", []int{10}, 0, []int{10}, []int{0}, 0},
		{"great values", []int{1 << 40, 1<<40 - 1, 1<<40 - 2}, 1000, []int{1 << 40}, []int{0, 1}, 1<<40 - 21001},
		{"the greatest values", slices.Repeat([]int{1 << 40}, 7), 0, slices.Repeat([]int{1 << 40}, 7), upTo(7), 0},
		{"the greatest change", []int{1 << 40, 1 << 40}, 0, []int{1 << 40, 10}, []int{0, 1}, 1<<40 - 10},
	} {
		t.Run(c.name, func(t *testing.T) {
			holdsChosen(t, c.values, c.rate, c.ask, c.places, c.change)
			holdsChosen(t, reversed(c.values), c.rate, c.ask, c.places, c.change)
		})
	}
}

func reversed(list []int) []int {
	list = slices.Clone(list)
	slices.Reverse(list)
	return list
}

func holdsChosen(t *testing.T, values []int, rate int, asked []int, places []int, back int) {
	t.Helper()
	p, coins := with(t, 5, 20, values...)
	slices.SortFunc(coins, func(a, b api.Coin) int {
		if a.Value != b.Value {
			return b.Value - a.Value
		}
		return a.Id - b.Id
	})
	all, _ := p.Balance()
	if len(places) == 0 {
		denies(t, p, ask(asked...), rate, 3, api.ErrFunds)
		return
	}
	free := all
	var chosen []api.Coin
	for _, i := range places {
		chosen = append(chosen, coins[i])
		free -= coins[i].Value
	}
	want := plain(0, 3, ask(asked...), chosen...)
	if back > 0 {
		want = changed(0, 3, ask(asked...), back, change(5, 0), chosen...)
	}
	pays(t, p, ask(asked...), rate, 3, want)
	balance(t, p, all, free)
}

// Of one Value the lesser Id goes first, of one Id the lesser At, whatever block brought the coin and whatever key has it.
func TestOrderP10(t *testing.T) {
	mine, next := receive(10, 2), change(10, 0)
	a := tagged(t, mint(0, mine.gets(50), next.gets(60), next.gets(50), mine.gets(50)), 5000)
	b := tagged(t, mint(0, next.gets(50), mine.gets(50)), 4000)
	c := tagged(t, mint(0, mine.gets(50)), 6000)
	d := tagged(t, mint(0, out(5, 50), mine.gets(50)), 0)
	order := []api.Coin{coin(a, 1, next), coin(d, 1, mine), coin(b, 0, next), coin(b, 1, mine), coin(a, 0, mine), coin(a, 2, next), coin(a, 3, mine), coin(c, 0, mine)}
	for _, list := range [][]api.Tx{{a, b, c, d}, {d, c, b, a}, {c, a, d, b}} {
		p := begin(t, 10, 3)
		for _, x := range list {
			connect(t, p, x)
		}
		for n := 1; n <= len(order); n++ {
			pays(t, p, ask(50*n+10), 0, 0, plain(n-1, 0, ask(50*n+10), order[:n]...))
			abandons(t, p, n-1, api.OK)
		}
		for n, o := range order[1:] {
			pays(t, p, ask(50), 0, 0, plain(len(order)+n, 0, ask(50), o))
		}
		balance(t, p, 410, 60)
	}
}

func TestBoundsP10(t *testing.T) {
	const coin0 = 100000
	for _, c := range []struct {
		name      string
		list      []api.Out
		rate, tag int
		e         api.Errno
	}{
		{"all least", outs(out(0, api.Dust)), 0, 0, api.OK},
		{"the greatest rate", ask(10), api.MaxRate, 0, api.OK},
		{"the greatest tag", ask(10), 0, api.MaxTag, api.OK},
		{"the greatest address", outs(out(api.Base-1, 10)), 0, 0, api.OK},
		{"the most outputs", manyOuts(api.MaxOuts-1, out(5, 10)), 0, 0, api.OK},
		{"the most outputs, not alike", ask(10, 11, 12, 13, 14, 15, 16), 7, 7, api.OK},
		{"an own address", outs(receive(10, 0).gets(10)), 0, 0, api.OK},
		{"rate -1", ask(10), -1, 0, api.ErrArg},
		{"rate 1001", ask(10), api.MaxRate + 1, 0, api.ErrArg},
		{"the least rate", ask(10), least, 0, api.ErrArg},
		{"the most rate", ask(10), most, 0, api.ErrArg},
		{"tag -1", ask(10), 0, -1, api.ErrArg},
		{"tag 2^40 + 1", ask(10), 0, api.MaxTag + 1, api.ErrArg},
		{"the least tag", ask(10), 0, least, api.ErrArg},
		{"no outputs", nil, 0, 0, api.ErrShape},
		{"an empty list", []api.Out{}, 0, 0, api.ErrShape},
		{"eight outputs", manyOuts(api.MaxOuts, out(5, 10)), 0, 0, api.ErrShape},
		{"nine outputs", manyOuts(api.MaxOuts+1, out(5, 10)), 0, 0, api.ErrShape},
		{"very many outputs", manyOuts(100000, out(5, 10)), 0, 0, api.ErrShape},
		{"one less than Dust", ask(9), 0, 0, api.ErrShape},
		{"one less than Dust, the last", ask(10, 10, 9), 0, 0, api.ErrShape},
		{"the value 0", ask(0), 0, 0, api.ErrShape},
		{"a negative value", ask(-10), 0, 0, api.ErrShape},
		{"one more than the greatest value", ask(api.MaxValue + 1), 0, 0, api.ErrShape},
		{"a sum that wraps around", ask(most, most), 0, 0, api.ErrShape},
		{"an address that is no mark", outs(out(api.Base, 10)), 0, 0, api.ErrShape},
		{"a negative address", outs(out(5, 10), out(-1, 10)), 0, 0, api.ErrShape},
		{"the greatest value", ask(api.MaxValue), 0, 0, api.ErrFunds},
		{"a coin's worth", ask(coin0 - 12000), api.MaxRate, 0, api.OK},
		{"one more", ask(coin0 - 11999), api.MaxRate, 0, api.ErrFunds},
		{"wrong rate, no outputs", nil, -1, 0, api.ErrArg},
		{"wrong tag, eight outputs", manyOuts(8, out(5, 10)), 0, -1, api.ErrArg},
		{"wrong rate and tag, too much", ask(api.MaxValue), 1001, -1, api.ErrArg},
		{"a wrong output, too much", ask(api.MaxValue, 9), 0, 0, api.ErrShape},
	} {
		t.Run(c.name, func(t *testing.T) {
			p, coins := with(t, 10, 3, coin0)
			if c.e != api.OK {
				denies(t, p, c.list, c.rate, c.tag, c.e)
				pays(t, p, ask(coin0), 0, 0, plain(0, 0, ask(coin0), coins...))
				denies(t, p, c.list, c.rate, c.tag, c.e)
				return
			}
			x, e := p.Pay(c.list, c.rate, c.tag)
			if e != api.OK || x.Tx.Tag != c.tag || !slices.Equal(x.Tx.Outs[:len(c.list)], c.list) {
				t.Errorf("Pay(%v, %d, %d) = %v, %d", c.list, c.rate, c.tag, x, e)
			}
			balance(t, p, coin0, 0)
		})
	}
}

// Out of coins of 100 each payment of 40 has change, and takes a key for it.
func TestChangeKeysP10(t *testing.T) {
	p, coins := with(t, 10, 3, 100, 100, 100, 100, 70)
	slices.SortFunc(coins[:4], func(a, b api.Coin) int { return a.Id - b.Id })
	for n := range 3 {
		pays(t, p, ask(40), 0, n, changed(n, n, ask(40), 60, change(10, n), coins[n]))
	}
	denies(t, p, ask(40), 0, 3, api.ErrGap)
	// Without change no key is needed.
	pays(t, p, ask(95), 0, 3, plain(3, 3, ask(95), coins[3]))
	for n := range 4 {
		abandons(t, p, n, api.OK)
	}
	denies(t, p, ask(40), 0, 3, api.ErrGap)
	// The window lets in a key for each one that is paid, but none of those below.
	for n := range 3 {
		connect(t, p, mint(n+50, change(10, n).gets(10)))
		pays(t, p, ask(40), 0, n, changed(n+4, n, ask(40), 60, change(10, n+3), coins[n]))
		denies(t, p, ask(40), 0, 3, api.ErrGap)
	}
	for range 3 {
		disconnect(t, p)
		denies(t, p, ask(40), 0, 3, api.ErrGap)
	}
	for n := 4; n < 7; n++ {
		abandons(t, p, n, api.OK)
	}
	denies(t, p, ask(40), 0, 3, api.ErrGap)
	balance(t, p, 470, 470)
}

func TestChangeKeyIsUnpaidP10(t *testing.T) {
	p, coins := with(t, 10, 4, 100, 99, 98)
	paid := mint(50, change(10, 0).gets(10), change(10, 2).gets(10), change(10, 1).gets(20))
	spent := sealed(tx(51, ins(in(purse.Id(paid), 2)), outs(out(5, 20))), change(10, 1))
	connect(t, p, paid, spent)
	// 1 was paid, though what it was paid is spent.
	pays(t, p, ask(40), 0, 1, changed(0, 1, ask(40), 60, change(10, 3), coins[0]))
	connect(t, p, mint(52, change(10, 4).gets(10)))
	pays(t, p, ask(40), 0, 1, changed(1, 1, ask(40), 59, change(10, 5), coins[1]))
	disconnect(t, p)
	disconnect(t, p)
	// The window is 4 again, and nothing is left in it above 5.
	denies(t, p, ask(40), 0, 1, api.ErrGap)
	connect(t, p, mint(53, change(10, 3).gets(10)))
	pays(t, p, ask(40), 0, 1, changed(2, 1, ask(40), 58, change(10, 6), coins[2]))
}

// An output to Receive 9 goes to the address of Change 1 (seed 527), and so does one to Change 0 to that of Change 28 (seed 16).
func TestChangeKeyOfOneAddressP10(t *testing.T) {
	p, coins := with(t, 527, 10, 100, 99, 98)
	connect(t, p, mint(50, receive(527, 9).gets(10)))
	pays(t, p, ask(40), 0, 1, changed(0, 1, ask(40), 60, change(527, 0), coins[0]))
	pays(t, p, ask(40), 0, 1, changed(1, 1, ask(40), 59, change(527, 2), coins[1]))
	p, coins = with(t, 16, 20, 100, 99)
	list := []int{}
	for i := range 28 {
		list = append(list, i)
	}
	for tag, some := range slices.Collect(slices.Chunk(list, api.MaxOuts)) {
		x := mint(60 + tag)
		for _, i := range some {
			x.Outs = append(x.Outs, change(16, i).gets(10))
		}
		connect(t, p, x)
	}
	// At this rate the coins of 10 are no candidates.
	pays(t, p, ask(40), 2, 1, changed(0, 1, ask(40), 32, change(16, 29), coins[0]))
	pays(t, p, ask(40), 2, 1, changed(1, 1, ask(40), 31, change(16, 30), coins[1]))
}

func TestLastChangeKeyP10(t *testing.T) {
	p, coins := with(t, 10, 20, 1000, 999, 998)
	for i := 0; i < api.MaxKeys-2; i += 7 {
		x := mint(100 + i)
		for index := i; index < min(i+7, api.MaxKeys-2); index++ {
			x.Outs = append(x.Outs, change(10, index).gets(10))
		}
		connect(t, p, x)
	}
	// At this rate the coins of 10 are no candidates.
	pays(t, p, ask(40), 2, 1, changed(0, 1, ask(40), 932, change(10, 98), coins[0]))
	pays(t, p, ask(40), 2, 1, changed(1, 1, ask(40), 931, change(10, 99), coins[1]))
	denies(t, p, ask(40), 2, 1, api.ErrGap)
	pays(t, p, ask(974), 2, 1, plain(2, 1, ask(974), coins[2]))
}

// A payment whose id stands in the chain, without change and with it.
func TestTwiceP10(t *testing.T) {
	for _, c := range []struct{ asked, back int }{{95, 0}, {40, 60}} {
		p, coins := with(t, 10, 3, 100)
		want := plain(0, 0, ask(c.asked), coins[0])
		if c.back > 0 {
			want = changed(0, 0, ask(c.asked), c.back, change(10, 0), coins[0])
		}
		inChain := mint(9, out(5, 10), out(6, 20))
		want.Tx = tagged(t, want.Tx, purse.Id(inChain))
		connect(t, p, inChain)
		denies(t, p, ask(c.asked), 0, want.Tx.Tag, api.ErrTwice)
		connect(t, p)
		denies(t, p, ask(c.asked), 0, want.Tx.Tag, api.ErrTwice)
		denies(t, p, ask(101), 0, want.Tx.Tag, api.ErrFunds)
		balance(t, p, 100, 100)
		other := want
		other.Tx.Tag = 7
		pays(t, p, ask(c.asked), 0, 7, other)
		abandons(t, p, 0, api.OK)
		disconnect(t, p)
		disconnect(t, p)
		if c.back == 0 {
			want.Number = 1
			pays(t, p, ask(c.asked), 0, want.Tx.Tag, want)
		}
	}
}

// Two payments may have the same id as long as neither stands in the chain; one that stands there is refused.
func TestOwnIdInChainP10(t *testing.T) {
	p, coins := with(t, 10, 3, 100)
	want := plain(0, 4, ask(100), coins[0])
	pays(t, p, ask(100), 0, 4, want)
	abandons(t, p, 0, api.OK)
	want.Number = 1
	pays(t, p, ask(100), 0, 4, want)
	abandons(t, p, 1, api.OK)
	connect(t, p, sealed(want.Tx, receive(10, 0)))
	denies(t, p, ask(100), 0, 4, api.ErrFunds)
	disconnect(t, p)
	want.Number = 2
	pays(t, p, ask(100), 0, 4, want)
}

// What is refused takes no number, no key for change and no coin.
func TestRefusedTakesNothingP10(t *testing.T) {
	p, coins := with(t, 10, 1, 100, 99, 98)
	inChain := mint(9, out(5, 10))
	connect(t, p, inChain)
	first := changed(0, 0, ask(40), 60, change(10, 0), coins[0])
	twice := tagged(t, first.Tx, purse.Id(inChain))
	wrong := func() {
		t.Helper()
		denies(t, p, ask(40), 1001, 0, api.ErrArg)
		denies(t, p, ask(40), 0, -1, api.ErrArg)
		denies(t, p, nil, 0, 0, api.ErrShape)
		denies(t, p, ask(9), 0, 0, api.ErrShape)
		denies(t, p, ask(298), 0, 0, api.ErrFunds)
		for _, n := range []int{-1, 7, most, least} {
			abandons(t, p, n, api.ErrPaid)
		}
	}
	wrong()
	denies(t, p, ask(40), 0, twice.Tag, api.ErrTwice)
	wrong()
	pays(t, p, ask(40), 0, 0, first)
	wrong()
	denies(t, p, ask(40), 0, 0, api.ErrGap)
	wrong()
	pays(t, p, ask(99), 0, 0, plain(1, 0, ask(99), coins[1]))
	connect(t, p, mint(8, change(10, 0).gets(10)))
	wrong()
	pays(t, p, ask(40), 0, 0, changed(2, 0, ask(40), 58, change(10, 1), coins[2]))
	balance(t, p, 307, 10)
}

func TestBalanceP9(t *testing.T) {
	p, coins := with(t, 10, 20, 100, 60, 40, 30)
	balance(t, p, 230, 230)
	pays(t, p, ask(70), 0, 0, plain(0, 0, ask(70), coins[2], coins[3]))
	balance(t, p, 230, 160)
	pays(t, p, ask(95), 0, 0, plain(1, 0, ask(95), coins[0]))
	balance(t, p, 230, 60)
	pays(t, p, ask(30), 0, 0, changed(2, 0, ask(30), 30, change(10, 0), coins[1]))
	balance(t, p, 230, 0)
	denies(t, p, ask(10), 0, 0, api.ErrFunds)
	// What is bound stays an own coin.
	shown := look(p)
	if len(shown.coins) != 4 || shown.receive != 24 || shown.change != 20 {
		t.Errorf("the purse shows %v", shown)
	}
	connect(t, p, mint(50, change(10, 3).gets(11), receive(10, 1).gets(22), receive(11, 0).gets(33)))
	balance(t, p, 263, 33)
	abandons(t, p, 1, api.OK)
	balance(t, p, 263, 133)
	abandons(t, p, 0, api.OK)
	balance(t, p, 263, 203)
	abandons(t, p, 2, api.OK)
	balance(t, p, 263, 263)
}

// A payment that comes into the chain has its coins spent; its change is a coin like any other, and all goes back.
func TestPaymentInChainP9P10(t *testing.T) {
	p, coins := with(t, 10, 3, 100, 60)
	want := changed(0, 0, ask(110), 50, change(10, 0), coins...)
	pays(t, p, ask(110), 0, 0, want)
	balance(t, p, 160, 0)
	connect(t, p, sealed(want.Tx, receive(10, 0), receive(10, 1)))
	balance(t, p, 50, 50)
	shows(t, p, 3, 5, 4, coin(want.Tx, 1, change(10, 0)))
	next := changed(1, 0, ask(20), 30, change(10, 1), coin(want.Tx, 1, change(10, 0)))
	pays(t, p, ask(20), 0, 0, next)
	balance(t, p, 50, 0)
	disconnect(t, p)
	balance(t, p, 160, 0)
	abandons(t, p, 0, api.OK)
	balance(t, p, 160, 160)
	connect(t, p, sealed(want.Tx, receive(10, 0), receive(10, 1)))
	balance(t, p, 50, 0)
	abandons(t, p, 1, api.OK)
	balance(t, p, 50, 50)
}

func TestCoinLeavesAndComesBackP10P11(t *testing.T) {
	p := begin(t, 10, 3)
	mine := receive(10, 0)
	a := mint(1, mine.gets(100), mine.gets(70))
	connect(t, p, a)
	pays(t, p, ask(100), 0, 0, plain(0, 0, ask(100), coin(a, 0, mine)))
	for range 2 {
		balance(t, p, 170, 70)
		disconnect(t, p)
		balance(t, p, 0, 0)
		denies(t, p, ask(10), 0, 0, api.ErrFunds)
		connect(t, p, mint(2, mine.gets(30)))
		balance(t, p, 30, 30)
		disconnect(t, p)
		connect(t, p, a)
		denies(t, p, ask(71), 0, 0, api.ErrFunds)
	}
	disconnect(t, p)
	// Another output of the same Id and At is bound likewise.
	b := tagged(t, mint(0, mine.gets(55), change(10, 1).gets(44)), purse.Id(a))
	connect(t, p, b)
	balance(t, p, 99, 44)
	denies(t, p, ask(45), 0, 0, api.ErrFunds)
	disconnect(t, p)
	abandons(t, p, 0, api.OK)
	balance(t, p, 0, 0)
	connect(t, p, a)
	balance(t, p, 170, 170)
	pays(t, p, ask(100), 0, 0, plain(1, 0, ask(100), coin(a, 0, mine)))
}

// A coin may go out of the window, and the payment stays.
func TestCoinGoesOutOfWindowP10(t *testing.T) {
	p := begin(t, 10, 3)
	far, near := receive(10, 5), receive(10, 2)
	a, b := mint(1, far.gets(100)), mint(2, near.gets(30))
	connect(t, p, a)
	denies(t, p, ask(10), 0, 0, api.ErrFunds)
	connect(t, p, b)
	pays(t, p, ask(100), 0, 0, plain(0, 0, ask(100), coin(a, 0, far)))
	disconnect(t, p)
	balance(t, p, 0, 0)
	connect(t, p, b)
	balance(t, p, 130, 30)
	abandons(t, p, 0, api.OK)
	balance(t, p, 130, 130)
}

func TestAbandonP11(t *testing.T) {
	p, coins := with(t, 10, 20, 100, 99, 98)
	for _, n := range strange {
		abandons(t, p, n, api.ErrPaid)
	}
	want := changed(0, 5, ask(40), 60, change(10, 0), coins[0])
	pays(t, p, ask(40), 0, 5, want)
	pays(t, p, ask(99), 0, 5, plain(1, 5, ask(99), coins[1]))
	for _, n := range strange {
		if n != 0 && n != 1 {
			abandons(t, p, n, api.ErrPaid)
		}
	}
	balance(t, p, 297, 98)
	abandons(t, p, 0, api.OK)
	abandons(t, p, 0, api.ErrPaid)
	balance(t, p, 297, 198)
	// The same request chooses the same; the change's key is another.
	pays(t, p, ask(40), 0, 5, changed(2, 5, ask(40), 60, change(10, 1), coins[0]))
	balance(t, p, 297, 98)
	abandons(t, p, 0, api.ErrPaid)
	abandons(t, p, 1, api.OK)
	abandons(t, p, 1, api.ErrPaid)
	balance(t, p, 297, 197)
	pays(t, p, ask(99), 0, 5, plain(3, 5, ask(99), coins[1]))
	abandons(t, p, 2, api.OK)
	balance(t, p, 297, 198)
	abandons(t, p, 3, api.OK)
	balance(t, p, 297, 297)
	pays(t, p, ask(100, 98), 0, 5, plain(4, 5, ask(100, 98), coins[0], coins[2]))
	balance(t, p, 297, 99)
	for _, n := range []int{-1, 0, 1, 2, 3, 5} {
		abandons(t, p, n, api.ErrPaid)
	}
	abandons(t, p, 4, api.OK)
	abandons(t, p, 4, api.ErrPaid)
	balance(t, p, 297, 297)
}

// Numbers go on rising, however many payments are abandoned.
func TestManyPaymentsP10P11(t *testing.T) {
	p, coins := with(t, 10, 3, 100, 60)
	for n := range 1000 {
		pays(t, p, ask(60), 0, n, plain(n, n, ask(60), coins[1]))
		balance(t, p, 160, 100)
		abandons(t, p, n+1, api.ErrPaid)
		abandons(t, p, n-1, api.ErrPaid)
		abandons(t, p, n, api.OK)
		balance(t, p, 160, 160)
	}
	// Live ones without end too: their coin leaves, and another comes.
	for n := range 1000 {
		x := mint(n+5, receive(10, 2).gets(10+n))
		p.Disconnect()
		connect(t, p, x)
		if got, e := p.Pay(ask(10+n), 0, n); e == api.OK && got.Number != 1000+n {
			t.Fatalf("the payment %d has the number %d", 1000+n, got.Number)
		} else if e != api.OK {
			t.Fatalf("Pay(%d) = %d", 10+n, e)
		}
	}
	for n := 999; n >= 0; n-- {
		abandons(t, p, 1000+n, api.OK)
		abandons(t, p, 1000+n, api.ErrPaid)
	}
}

func TestNothingKeptOfRequestP2(t *testing.T) {
	p, coins := with(t, 10, 3, 100)
	room := outs(out(1000, 40), out(1001, 41), out(1002, 42))
	given := room[:1]
	x, e := p.Pay(given, 0, 0)
	if !slices.Equal(room, outs(out(1000, 40), out(1001, 41), out(1002, 42))) {
		t.Errorf("what was handed in is %v now", room)
	}
	for i := range room {
		room[i] = out(7, 7)
	}
	if want := changed(0, 0, ask(40), 60, change(10, 0), coins...); e != api.OK || !samePaid(x, want) {
		t.Errorf("the payment is %v, want %v", x, want)
	}
}

// overwrite writes into all the room of what came out.
func overwrite(x api.Paid) {
	ins, outs, keys := x.Tx.Ins[:cap(x.Tx.Ins)], x.Tx.Outs[:cap(x.Tx.Outs)], x.Keys[:cap(x.Keys)]
	for i := range ins {
		ins[i] = in(1, 1, 1)
	}
	for i := range outs {
		outs[i] = out(1, 1)
	}
	for i := range keys {
		keys[i] = api.Key{Branch: 1, Index: 77}
	}
}

func TestPaymentsAreFreshP2(t *testing.T) {
	p, coins := with(t, 10, 20, 100, 60, 40, 30)
	one, _ := p.Pay(ask(150), 0, 0)
	two, _ := p.Pay(ask(65), 0, 0)
	if !samePaid(one, changed(0, 0, ask(150), 10, change(10, 0), coins[0], coins[1])) {
		t.Fatalf("the first payment is %v", one)
	}
	overwrite(one)
	if !samePaid(two, plain(1, 0, ask(65), coins[2], coins[3])) {
		t.Errorf("the second payment is %v", two)
	}
	balance(t, p, 230, 0)
	overwrite(two)
	balance(t, p, 230, 0)
	abandons(t, p, 0, api.OK)
	balance(t, p, 230, 160)
	overwrite(one)
	pays(t, p, ask(155), 0, 0, plain(2, 0, ask(155), coins[0], coins[1]))
	abandons(t, p, 1, api.OK)
	balance(t, p, 230, 70)
}

func TestPaymentsOfPursesAreApartP2(t *testing.T) {
	p, coins := with(t, 10, 3, 100, 60)
	q, _ := with(t, 10, 3, 100, 60)
	pays(t, p, ask(40), 0, 0, changed(0, 0, ask(40), 60, change(10, 0), coins[0]))
	balance(t, p, 160, 60)
	balance(t, q, 160, 160)
	abandons(t, q, 0, api.ErrPaid)
	pays(t, q, ask(100), 0, 0, plain(0, 0, ask(100), coins[0]))
	pays(t, q, ask(40), 0, 0, changed(1, 0, ask(40), 20, change(10, 0), coins[1]))
	abandons(t, q, 0, api.OK)
	balance(t, p, 160, 60)
	abandons(t, p, 1, api.ErrPaid)
	abandons(t, p, 0, api.OK)
	balance(t, p, 160, 160)
	balance(t, q, 160, 100)
}
