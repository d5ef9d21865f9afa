package purse_test

import (
	"reflect"
	"slices"
	"testing"

	"purse/api"
	"purse/purse"
)

// signs holds the answer against the payment with the seals of its keys.
func signs(t *testing.T, p *purse.Purse, seed int, x api.Paid) api.Tx {
	t.Helper()
	want := withSeals(seed, x)
	got, e := p.Sign(x.Number)
	if e != api.OK || !sameTx(got, want) {
		t.Fatalf("Sign(%d) = %v, %d, want %v, 0", x.Number, got, e, want)
	}
	return got
}

func leavesUnsigned(t *testing.T, p *purse.Purse, number int, want api.Errno) {
	t.Helper()
	was := look(p)
	if got, e := p.Sign(number); e != want || !reflect.DeepEqual(got, api.Tx{}) {
		t.Errorf("Sign(%d) = %v, %d, want nothing, %d", number, got, e, want)
	}
	if now := look(p); !reflect.DeepEqual(now, was) {
		t.Errorf("Sign(%d) was refused, but %v is %v now", number, was, now)
	}
}

// paidFor makes a payment that must come about.
func paidFor(t *testing.T, p *purse.Purse, list []api.Out, rate int, tag int) api.Paid {
	t.Helper()
	x, e := p.Pay(list, rate, tag)
	if e != api.OK {
		t.Fatalf("Pay(%v, %d, %d) = %d", list, rate, tag, e)
	}
	return x
}

// The document's coins of 100, 60, 40 and 30 are Receive 0 to 3 of the seed 0; the ids and
// the seals were worked out beside the program, from the document's words.
func TestExamplesP12(t *testing.T) {
	for _, c := range []struct {
		name    string
		asked   int
		rate    int
		want    api.Tx
		id      int
		balance int
	}{
		{"70", 70, 0, tx(5, ins(
			in(10122, 0, 72691, 89271, 31679, 44241, 34525),
			in(79700, 0, 63555, 15335, 85126, 40256, 73796)), outs(out(1000, 70))), 58426, 160},
		{"95", 95, 0, tx(5, ins(
			in(90891, 0, 3143, 5048, 128, 69176, 23)), outs(out(1000, 95))), 60561, 130},
		{"111", 111, 1, tx(5, ins(
			in(90891, 0, 88003, 84597, 11, 263, 65066),
			in(79700, 0, 73628, 33918, 75667, 40256, 73796)), outs(out(1000, 111))), 44440, 100},
		{"129", 129, 1, tx(5, ins(
			in(90891, 0, 56870, 84597, 11, 263, 65414),
			in(64518, 0, 3536, 70392, 22218, 78972, 92151)), outs(out(1000, 129), out(25868, 10))), 21336, 70},
	} {
		t.Run(c.name, func(t *testing.T) {
			p, _ := with(t, 0, 20, 100, 60, 40, 30)
			x := paidFor(t, p, ask(c.asked), c.rate, 5)
			balance(t, p, 230, c.balance)
			refuses(t, p, block(x.Tx), api.ErrSeal, 0)
			got, e := p.Sign(0)
			if e != api.OK || !sameTx(got, c.want) || purse.Id(got) != c.id {
				t.Fatalf("Sign(0) = %v, %d, want %v, 0", got, e, c.want)
			}
			balance(t, p, 230, c.balance)
			connect(t, p, got)
			back := 0
			if x.Change >= 0 {
				back = 10
			}
			balance(t, p, c.balance+back, c.balance+back)
		})
	}
}

// A payment is signed, goes into the chain, and its change is paid with in turn.
func TestSignedIntoChainP12(t *testing.T) {
	p, coins := with(t, 10, 3, 100, 60)
	x := changed(0, 0, ask(110), 50, change(10, 0), coins...)
	pays(t, p, ask(110), 0, 0, x)
	refuses(t, p, block(x.Tx), api.ErrSeal, 0)
	signedX := signs(t, p, 10, x)
	balance(t, p, 160, 0)
	// What is paid away is not to be had for more than it was sealed for.
	more := copied(signedX)
	more.Outs[0].Value++
	refuses(t, p, block(more), api.ErrSeal, 0)
	connect(t, p, signedX)
	refuses(t, p, block(signedX), api.ErrTwice, 0)
	shows(t, p, 3, 5, 4, coin(x.Tx, 1, change(10, 0)))
	y := changed(1, 0, ask(20), 30, change(10, 1), coin(x.Tx, 1, change(10, 0)))
	pays(t, p, ask(20), 0, 0, y)
	signedY := signs(t, p, 10, y)
	connect(t, p, signedY)
	shows(t, p, 4, 5, 5, coin(y.Tx, 1, change(10, 1)))
	disconnect(t, p)
	disconnect(t, p)
	balance(t, p, 160, 0)
	connect(t, p, signedX, signedY)
	shows(t, p, 3, 5, 5, coin(y.Tx, 1, change(10, 1)))
}

func TestSignedAgainP12(t *testing.T) {
	p, coins := with(t, 10, 3, 100, 60, 30)
	x := changed(0, 7, ask(110), 50, change(10, 0), coins[0], coins[1])
	pays(t, p, ask(110), 0, 7, x)
	signed := signs(t, p, 10, x)
	again := func() {
		t.Helper()
		was := look(p)
		signs(t, p, 10, x)
		signs(t, p, 10, x)
		if now := look(p); !reflect.DeepEqual(now, was) {
			t.Errorf("signed again, and %v is %v now", was, now)
		}
	}
	again() // with the chain as it was
	connect(t, p, signed)
	again() // with its block in the chain
	connect(t, p, mint(50, receive(10, 0).gets(70)))
	again()
	disconnect(t, p)
	disconnect(t, p)
	again() // with its block gone
	connect(t, p, tagged(t, mint(0, out(5, 10)), purse.Id(x.Tx)))
	again() // with its id in the chain
	disconnect(t, p)
	disconnect(t, p)
	disconnect(t, p)
	again() // with one coin gone
	connect(t, p, tagged(t, mint(0, receive(10, 2).gets(61)), coins[1].Id))
	again() // with another coin in its place
	for range 2 {
		disconnect(t, p)
	}
	again() // with all coins gone
	balance(t, p, 0, 0)
	abandons(t, p, 0, api.OK)
	leavesUnsigned(t, p, 0, api.ErrPaid)
}

// A payment of three coins, of two transactions; each case leads the chain away under it.
func TestGoneP12(t *testing.T) {
	one, two, three, four := receive(10, 0), receive(10, 1), change(10, 2), receive(10, 2)
	a := mint(1, one.gets(100))
	b := mint(2, two.gets(60), three.gets(40))
	x := plain(0, 9, ask(200), coin(a, 0, one), coin(b, 0, two), coin(b, 1, three))
	id := purse.Id(b)
	instead := func(list ...api.Out) api.Tx { return tagged(t, mint(0, list...), id) }
	for _, c := range []struct {
		name   string
		leave  int // how many blocks
		blocks [][]api.Tx
		e      api.Errno
	}{
		{"two of its coins are gone", 1, nil, api.ErrGone},
		{"all its coins are gone", 2, nil, api.ErrGone},
		{"the first coin is gone", 2, [][]api.Tx{{b}}, api.ErrGone},
		{"an empty block came", 1, [][]api.Tx{{}}, api.ErrGone},
		{"another transaction came", 1, [][]api.Tx{{mint(3, two.gets(60), three.gets(40))}}, api.ErrGone},
		{"another value, greater", 1, [][]api.Tx{{instead(two.gets(61), three.gets(40))}}, api.ErrGone},
		{"another value, lesser", 1, [][]api.Tx{{instead(two.gets(59), three.gets(40))}}, api.ErrGone},
		{"another value of the last", 1, [][]api.Tx{{instead(two.gets(60), three.gets(39))}}, api.ErrGone},
		{"another address", 1, [][]api.Tx{{instead(four.gets(60), three.gets(40))}}, api.ErrGone},
		{"another address of the last", 1, [][]api.Tx{{instead(two.gets(60), two.gets(40))}}, api.ErrGone},
		{"an address that is not its own", 1, [][]api.Tx{{instead(two.gets(60), out(5, 40))}}, api.ErrGone},
		{"another address and value", 1, [][]api.Tx{{instead(four.gets(61), three.gets(40))}}, api.ErrGone},
		{"the values swapped", 1, [][]api.Tx{{instead(two.gets(40), three.gets(60))}}, api.ErrGone},
		{"the outputs swapped", 1, [][]api.Tx{{instead(three.gets(40), two.gets(60))}}, api.ErrGone},
		{"an output less", 1, [][]api.Tx{{instead(two.gets(60))}}, api.ErrGone},
		{"another value of the first coin", 2, [][]api.Tx{{tagged(t, mint(0, one.gets(101)), purse.Id(a))}, {b}}, api.ErrGone},
		{"the first coin is spent", 0, [][]api.Tx{{sealed(tx(4, ins(in(purse.Id(a), 0)), outs(one.gets(100))), one)}}, api.ErrGone},
		{"the last coin is spent", 0, [][]api.Tx{{sealed(tx(4, ins(in(id, 1)), outs(out(5, 40))), three)}}, api.ErrGone},
		{"all coins are spent", 0, [][]api.Tx{{sealed(tx(4, x.Tx.Ins, outs(out(5, 40))), one, two, three)}}, api.ErrGone},
		{"its id is in the chain", 0, [][]api.Tx{{tagged(t, mint(0, out(5, 10)), purse.Id(x.Tx))}}, api.ErrGone},
		{"its id is in the chain, further back", 0, [][]api.Tx{{tagged(t, mint(0, one.gets(10)), purse.Id(x.Tx))}, {}, {mint(5, out(5, 10))}}, api.ErrGone},
		{"its id is in the chain, and spent", 0, [][]api.Tx{{tagged(t, mint(0, one.gets(10)), purse.Id(x.Tx)), sealed(tx(6, ins(in(purse.Id(x.Tx), 0)), outs(out(5, 10))), one)}}, api.ErrGone},
		{"it stands in the chain itself", 0, [][]api.Tx{{withSeals(10, x)}}, api.ErrGone},
		{"its id and a coin that is gone", 2, [][]api.Tx{{a}, {tagged(t, mint(0, out(5, 10)), purse.Id(x.Tx))}}, api.ErrGone},

		{"nothing has changed", 0, nil, api.OK},
		{"blocks came", 0, [][]api.Tx{{}, {mint(5, one.gets(10))}}, api.OK},
		{"the coins left and came back", 2, [][]api.Tx{{a}, {b}}, api.OK},
		{"they came back in another order", 2, [][]api.Tx{{b}, {}, {a}}, api.OK},
		{"another transaction has the same coins", 1, [][]api.Tx{{instead(two.gets(60), three.gets(40), out(5, 10))}}, api.OK},
	} {
		t.Run(c.name, func(t *testing.T) {
			p := begin(t, 10, 3)
			connect(t, p, a)
			connect(t, p, b)
			pays(t, p, ask(200), 0, 9, x)
			was := look(p)
			for range c.leave {
				disconnect(t, p)
			}
			for _, list := range c.blocks {
				connect(t, p, list...)
			}
			if c.e == api.OK {
				signs(t, p, 10, x)
				return
			}
			leavesUnsigned(t, p, 0, c.e)
			leavesUnsigned(t, p, 0, c.e)
			for p.Height() > 0 {
				disconnect(t, p)
			}
			connect(t, p, a)
			connect(t, p, b)
			if now := look(p); !reflect.DeepEqual(now, was) {
				t.Errorf("the purse shows %v, want %v", now, was)
			}
			connect(t, p, signs(t, p, 10, x))
		})
	}
}

// The coin of Receive 5 goes out of the window; it is a coin of the chain still.
func TestSignOutOfWindowP12(t *testing.T) {
	p := begin(t, 10, 3)
	far := receive(10, 5)
	a, b := mint(1, far.gets(100)), mint(2, receive(10, 2).gets(30))
	connect(t, p, a)
	connect(t, p, b)
	x := plain(0, 0, ask(100), coin(a, 0, far))
	pays(t, p, ask(100), 0, 0, x)
	disconnect(t, p)
	shows(t, p, 1, 3, 3)
	connect(t, p, signs(t, p, 10, x))
	disconnect(t, p)
	connect(t, p, b)
	balance(t, p, 130, 30)
	abandons(t, p, 0, api.OK)
	balance(t, p, 130, 30)
}

// The first payment has coins of the keys 0 and 1, the second one of 1 and 2.
func TestUsedP12(t *testing.T) {
	for first := range 2 {
		p := begin(t, 10, 3)
		keys := []owner{receive(10, 0), receive(10, 1), receive(10, 2)}
		a := mint(1, keys[0].gets(100), keys[1].gets(90), keys[1].gets(50), keys[2].gets(40), keys[0].gets(13), keys[2].gets(12))
		connect(t, p, a)
		coins := []api.Coin{coin(a, 0, keys[0]), coin(a, 1, keys[1]), coin(a, 2, keys[1]), coin(a, 3, keys[2])}
		list := []api.Paid{plain(0, 0, ask(190), coins[0], coins[1]), plain(1, 0, ask(90), coins[2], coins[3])}
		pays(t, p, ask(190), 0, 0, list[0])
		pays(t, p, ask(90), 0, 0, list[1])
		balance(t, p, 305, 25)
		second := 1 - first
		signed := signs(t, p, 10, list[first])
		left := []int{12, 13}[first] // that of the key that is the second's alone
		balance(t, p, 305, left)
		leavesUnsigned(t, p, second, api.ErrUsed)
		leavesUnsigned(t, p, second, api.ErrUsed)
		signs(t, p, 10, list[first])
		// With the first one in the chain, behind it, and when it is given up.
		connect(t, p, signed)
		leavesUnsigned(t, p, second, api.ErrUsed)
		disconnect(t, p)
		leavesUnsigned(t, p, second, api.ErrUsed)
		abandons(t, p, first, api.OK)
		leavesUnsigned(t, p, first, api.ErrPaid)
		leavesUnsigned(t, p, second, api.ErrUsed)
		balance(t, p, 305, left)
		disconnect(t, p)
		connect(t, p, a)
		leavesUnsigned(t, p, second, api.ErrUsed)
		// What was refused has sealed nothing: of its keys one is left.
		abandons(t, p, second, api.OK)
		balance(t, p, 305, left+[]int{40, 100}[first])
	}
}

// Coins of one key in one payment are no hindrance.
func TestOneKeyOnePaymentP12(t *testing.T) {
	p := begin(t, 10, 3)
	mine, next := receive(10, 1), change(10, 1)
	a := mint(1, mine.gets(100), next.gets(90), mine.gets(80), mine.gets(70))
	connect(t, p, a)
	x := plain(0, 0, ask(340), coin(a, 0, mine), coin(a, 1, next), coin(a, 2, mine), coin(a, 3, mine))
	pays(t, p, ask(340), 0, 0, x)
	connect(t, p, signs(t, p, 10, x))
	shows(t, p, 2, 5, 5)
}

// Receive 0 and Change 0, Receive 0 and Receive 1: one that has sealed is not another.
func TestOtherKeysP12(t *testing.T) {
	for _, pair := range [][2]owner{{receive(10, 0), change(10, 0)}, {receive(10, 0), receive(10, 1)}, {change(10, 2), change(10, 1)}, {change(10, 1), receive(10, 1)}} {
		p := begin(t, 10, 3)
		a := mint(1, pair[0].gets(100), pair[1].gets(50), pair[0].gets(30), pair[1].gets(20))
		connect(t, p, a)
		x := plain(0, 0, ask(100), coin(a, 0, pair[0]))
		y := plain(1, 0, ask(50), coin(a, 1, pair[1]))
		pays(t, p, ask(100), 0, 0, x)
		pays(t, p, ask(50), 0, 0, y)
		signs(t, p, 10, x)
		balance(t, p, 200, 20)
		signs(t, p, 10, y)
		balance(t, p, 200, 0)
	}
}

func TestWrongNumbersP12(t *testing.T) {
	p, coins := with(t, 10, 20, 100, 60, 40)
	for _, n := range strange {
		leavesUnsigned(t, p, n, api.ErrPaid)
	}
	x := plain(0, 0, ask(100), coins[0])
	y := plain(1, 0, ask(60), coins[1])
	pays(t, p, ask(100), 0, 0, x)
	pays(t, p, ask(60), 0, 0, y)
	for _, n := range strange {
		if n != 0 && n != 1 {
			leavesUnsigned(t, p, n, api.ErrPaid)
		}
	}
	abandons(t, p, 0, api.OK)
	leavesUnsigned(t, p, 0, api.ErrPaid)
	leavesUnsigned(t, p, 0, api.ErrPaid)
	balance(t, p, 200, 140)
	signs(t, p, 10, y)
	leavesUnsigned(t, p, 0, api.ErrPaid)
	abandons(t, p, 1, api.OK)
	leavesUnsigned(t, p, 1, api.ErrPaid)
	leavesUnsigned(t, p, 2, api.ErrPaid)
	// The key of an abandoned payment that was not signed has sealed nothing.
	x.Number = 2
	pays(t, p, ask(100), 0, 0, x)
	signs(t, p, 10, x)
}

// ErrPaid goes ahead of all; what was signed ahead of ErrGone; ErrGone ahead of ErrUsed.
func TestOrderOfErrorsP12(t *testing.T) {
	p := begin(t, 10, 3)
	mine := receive(10, 1)
	a, b := mint(1, mine.gets(100), mine.gets(70)), mint(2, mine.gets(50))
	connect(t, p, a)
	connect(t, p, b)
	x := plain(0, 0, ask(100), coin(a, 0, mine))
	y := plain(1, 0, ask(50), coin(b, 0, mine))
	z := plain(2, 0, ask(70), coin(a, 1, mine))
	pays(t, p, ask(100), 0, 0, x)
	pays(t, p, ask(50), 0, 0, y)
	pays(t, p, ask(70), 0, 0, z)
	signs(t, p, 10, x)
	leavesUnsigned(t, p, 1, api.ErrUsed)
	disconnect(t, p)
	leavesUnsigned(t, p, 1, api.ErrGone)
	leavesUnsigned(t, p, 2, api.ErrUsed)
	connect(t, p, tagged(t, mint(0, out(5, 10)), purse.Id(z.Tx)))
	leavesUnsigned(t, p, 2, api.ErrGone)
	disconnect(t, p)
	connect(t, p, b)
	leavesUnsigned(t, p, 1, api.ErrUsed)
	disconnect(t, p)
	disconnect(t, p)
	leavesUnsigned(t, p, 2, api.ErrGone)
	signs(t, p, 10, x)
	for n := range 3 {
		abandons(t, p, n, api.OK)
		leavesUnsigned(t, p, n, api.ErrPaid)
	}
	connect(t, p, a)
	for n := range 3 {
		leavesUnsigned(t, p, n, api.ErrPaid)
	}
	balance(t, p, 170, 0)
}

// Two payments with one key: the first is refused, so it has not sealed, and the second may.
func TestRefusedSealsNothingP12(t *testing.T) {
	p := begin(t, 10, 3)
	mine, next := receive(10, 1), receive(10, 0)
	a, b := mint(1, mine.gets(100)), mint(2, mine.gets(50), next.gets(20))
	connect(t, p, a)
	connect(t, p, b)
	x := plain(0, 0, ask(70), coin(b, 0, mine), coin(b, 1, next))
	y := plain(1, 0, ask(100), coin(a, 0, mine))
	pays(t, p, ask(70), 0, 0, x)
	pays(t, p, ask(100), 0, 0, y)
	disconnect(t, p)
	leavesUnsigned(t, p, 0, api.ErrGone)
	connect(t, p, mint(3, next.gets(33), mine.gets(44)))
	balance(t, p, 177, 77)
	signs(t, p, 10, y)
	balance(t, p, 177, 33)
	disconnect(t, p)
	connect(t, p, b)
	leavesUnsigned(t, p, 0, api.ErrUsed)
	abandons(t, p, 0, api.OK)
	balance(t, p, 170, 20)
	z := plain(2, 0, ask(20), coin(b, 1, next))
	pays(t, p, ask(20), 0, 0, z)
	connect(t, p, signs(t, p, 10, z))
}

// Once a key has sealed, none of its coins is free: not those that are there, nor those that come.
func TestFreeBehindSignP9P10(t *testing.T) {
	p := begin(t, 10, 3)
	mine, next := receive(10, 1), change(10, 0)
	a := mint(1, mine.gets(100), mine.gets(70), next.gets(50))
	connect(t, p, a)
	x := plain(0, 0, ask(100), coin(a, 0, mine))
	pays(t, p, ask(100), 0, 0, x)
	balance(t, p, 220, 120)
	signed := signs(t, p, 10, x)
	balance(t, p, 220, 50)
	denies(t, p, ask(51), 0, 0, api.ErrFunds)
	shown := look(p)
	if len(shown.coins) != 3 || shown.receive != 5 || shown.change != 4 {
		t.Errorf("what is not free is an own coin still: %v", shown)
	}
	connect(t, p, mint(2, mine.gets(500), receive(10, 0).gets(30)))
	balance(t, p, 750, 80)
	denies(t, p, ask(81), 0, 0, api.ErrFunds)
	connect(t, p, signed)
	balance(t, p, 650, 80)
	disconnect(t, p)
	disconnect(t, p)
	balance(t, p, 220, 50)
	abandons(t, p, 0, api.OK)
	balance(t, p, 220, 50)
	denies(t, p, ask(51), 0, 0, api.ErrFunds)
	disconnect(t, p)
	balance(t, p, 0, 0)
	connect(t, p, a)
	balance(t, p, 220, 50)
	// The candidate is the least coin, as the others are not free.
	y := changed(1, 0, ask(20), 30, change(10, 1), coin(a, 2, next))
	pays(t, p, ask(20), 0, 0, y)
	balance(t, p, 220, 0)
	connect(t, p, signs(t, p, 10, y))
	balance(t, p, 200, 30)
}

// A coin that a payment holds, of a key that another one has sealed with, is not free when that payment is given up.
func TestHeldAndSealedP9P11(t *testing.T) {
	p := begin(t, 10, 3)
	mine := receive(10, 1)
	a := mint(1, mine.gets(100), mine.gets(70))
	connect(t, p, a)
	pays(t, p, ask(100), 0, 0, plain(0, 0, ask(100), coin(a, 0, mine)))
	pays(t, p, ask(70), 0, 0, plain(1, 0, ask(70), coin(a, 1, mine)))
	signs(t, p, 10, plain(1, 0, ask(70), coin(a, 1, mine)))
	balance(t, p, 170, 0)
	abandons(t, p, 0, api.OK)
	balance(t, p, 170, 0)
	abandons(t, p, 1, api.OK)
	balance(t, p, 170, 0)
	denies(t, p, ask(10), 0, 0, api.ErrFunds)
}

// Of the seed 356 Receive 4 and Change 7 have one address. As long as Receive 4 is not
// watched, such a coin's key is Change 7.
func TestTwoKeysOfOneAddressP12(t *testing.T) {
	one, other := receive(356, 4), change(356, 7)
	if one.address() != other.address() {
		t.Fatal("the addresses differ")
	}
	p := begin(t, 356, 3)
	far := mint(1, change(356, 2).gets(10))
	connect(t, p, far, sealed(tx(1, ins(in(purse.Id(far), 0)), outs(change(356, 5).gets(10))), change(356, 2)))
	a := mint(2, one.gets(100), one.gets(90), one.gets(80), one.gets(70))
	connect(t, p, a)
	x := plain(0, 0, ask(100), coin(a, 0, other))
	y := plain(1, 0, ask(90), coin(a, 1, other))
	pays(t, p, ask(100), 0, 0, x)
	pays(t, p, ask(90), 0, 0, y)
	balance(t, p, 350, 160)
	// Now Receive 4 is watched, and goes ahead; the payment's key is the one that it was made with.
	more := mint(3, receive(356, 2).gets(60))
	connect(t, p, more)
	balance(t, p, 410, 220)
	signedX := signs(t, p, 356, x)
	balance(t, p, 410, 220)
	leavesUnsigned(t, p, 1, api.ErrUsed)
	z := plain(2, 0, ask(80), coin(a, 2, one))
	pays(t, p, ask(80), 0, 0, z)
	balance(t, p, 410, 140)
	// Without Receive 4 the coins' key is the one that has sealed.
	disconnect(t, p)
	balance(t, p, 350, 10)
	signedZ := signs(t, p, 356, z)
	balance(t, p, 350, 10)
	connect(t, p, more)
	balance(t, p, 410, 70)
	connect(t, p, signedX)
	connect(t, p, signedZ)
	balance(t, p, 230, 70)
}

// A key that has sealed and that nothing is paid to any more is given for change, as the document rules out no such key.
func TestSealedKeyForChangeP10P12(t *testing.T) {
	p, coins := with(t, 10, 3, 100)
	a := mint(50, change(10, 0).gets(30))
	connect(t, p, a)
	x := plain(0, 0, ask(30), coin(a, 0, change(10, 0)))
	pays(t, p, ask(30), 0, 0, x)
	signs(t, p, 10, x)
	disconnect(t, p)
	y := changed(1, 0, ask(40), 60, change(10, 0), coins[0])
	pays(t, p, ask(40), 0, 0, y)
	connect(t, p, signs(t, p, 10, y))
	balance(t, p, 60, 0)
}

// As many inputs as may be, and all keys that there are.
func TestManyKeysP12(t *testing.T) {
	p := begin(t, 10, 20)
	var coins []api.Coin
	for i := 0; i < api.MaxKeys; i += 4 {
		x := mint(i)
		for n := range 4 {
			x.Outs = append(x.Outs, receive(10, i+n).gets(10000-20*(i+n)), change(10, i+n).gets(10000-20*(i+n)-10))
		}
		for at := range x.Outs {
			coins = append(coins, coin(x, at, owner{10, at % 2, i + at/2}))
		}
		connect(t, p, x)
	}
	all, free := p.Balance()
	if len(p.Coins()) != 2*api.MaxKeys || all != free {
		t.Fatalf("%d coins, balance %d, %d", len(p.Coins()), all, free)
	}
	for n := range len(coins) / api.MaxIns {
		ten := coins[n*api.MaxIns : (n+1)*api.MaxIns]
		sum := 0
		for _, c := range ten {
			sum += c.Value
		}
		x := plain(n, n, ask(sum), ten...)
		pays(t, p, ask(sum), 0, n, x)
		signed := signs(t, p, 10, x)
		abandons(t, p, n, api.OK)
		free -= sum
		balance(t, p, all, free)
		connect(t, p, signed)
		disconnect(t, p)
	}
	denies(t, p, ask(10), 0, 0, api.ErrFunds)
	balance(t, p, all, 0)
}

// overwriteTx writes into all the room of a transaction that came out, that of its seals too.
func overwriteTx(x api.Tx) {
	for _, i := range x.Ins {
		room := i.Seal[:cap(i.Seal)]
		for n := range room {
			room[n] = -7
		}
	}
	overwrite(api.Paid{Tx: x})
}

func TestSignedAreFreshP2(t *testing.T) {
	p := begin(t, 10, 20)
	mine, next := receive(10, 1), change(10, 0)
	a := mint(1, mine.gets(100), mine.gets(70), next.gets(50), mine.gets(200))
	connect(t, p, a)
	want := changed(0, 0, ask(310), 60, change(10, 1), coin(a, 3, mine), coin(a, 0, mine), coin(a, 1, mine))
	list := ask(310)
	x, _ := p.Pay(list, 0, 0)
	if !samePaid(x, want) {
		t.Fatalf("the payment is %v, want %v", x, want)
	}
	other := plain(1, 0, ask(50), coin(a, 2, next))
	pays(t, p, ask(50), 0, 0, other)
	list[0] = out(7, 7)
	overwrite(x)
	kept := signs(t, p, 10, want)
	for range 3 {
		overwriteTx(signs(t, p, 10, want))
		overwriteTx(signs(t, p, 10, other))
	}
	if !sameTx(kept, withSeals(10, want)) {
		t.Errorf("the first answer is %v now, want %v", kept, withSeals(10, want))
	}
	// Of two inputs with the same key the one's seal is not the other's.
	room := kept.Ins[0].Seal[:cap(kept.Ins[0].Seal)]
	for n := range room {
		room[n] = -7
	}
	if w := withSeals(10, want); !slices.Equal(kept.Ins[1].Seal, w.Ins[1].Seal) || !slices.Equal(kept.Ins[2].Seal, w.Ins[2].Seal) {
		t.Errorf("the seals are %v now, want %v", kept.Ins, w.Ins)
	}
	overwriteTx(kept)
	balance(t, p, 420, 0)
	connect(t, p, signs(t, p, 10, want), signs(t, p, 10, other))
	balance(t, p, 60, 60)
}

func TestSignsOfPursesAreApartP2(t *testing.T) {
	p, coins := with(t, 10, 3, 100, 60)
	q, _ := with(t, 10, 3, 100, 60)
	x := plain(0, 0, ask(100), coins[0])
	pays(t, p, ask(100), 0, 0, x)
	signed := signs(t, p, 10, x)
	leavesUnsigned(t, q, 0, api.ErrPaid)
	balance(t, q, 160, 160)
	y := changed(0, 0, ask(140), 20, change(10, 0), coins...)
	pays(t, q, ask(140), 0, 0, y)
	signs(t, q, 10, y)
	abandons(t, p, 0, api.OK)
	balance(t, p, 160, 60)
	connect(t, q, signed)
	signs(t, q, 10, y)
	leavesUnsigned(t, p, 0, api.ErrPaid)
	balance(t, p, 160, 60)
}
