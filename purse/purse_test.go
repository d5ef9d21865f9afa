package purse_test

import (
	"math/rand"
	"slices"
	"testing"

	"purse/api"
	"purse/purse"
)

const (
	least = -1 << 63
	most  = 1<<63 - 1
)

// strange has numbers at and beyond the bounds that the document names.
var strange = []int{least, least + 1, -1 << 40, -api.Base, -2, -1, 0, 1, 2, 4, 5, 7, 8, 9, 10, 11, 99, 100, 511, 512, api.Base - 1, api.Base, api.Base + 1, 1<<32 - 1, 1 << 32, 1<<40 - 1, 1 << 40, 1<<40 + 1, 1 << 62, most - 1, most}

func in(id int, at int, seal ...int) api.In { return api.In{Id: id, At: at, Seal: seal} }

func out(to int, value int) api.Out { return api.Out{To: to, Value: value} }

func ins(list ...api.In) []api.In { return list }

func outs(list ...api.Out) []api.Out { return list }

func tx(tag int, ins []api.In, outs []api.Out) api.Tx {
	return api.Tx{Tag: tag, Ins: ins, Outs: outs}
}

func manyIns(n int, i api.In) []api.In { return slices.Repeat(ins(i), n) }

func manyOuts(n int, o api.Out) []api.Out { return slices.Repeat(outs(o), n) }

// The wanted ids were worked out beside the program, from the document's words.
func TestIdP3(t *testing.T) {
	o := outs(out(5, 10))
	last := in(api.Base-1, api.MaxOuts-1)
	for _, c := range []struct {
		name string
		tx   api.Tx
		want int
	}{
		{"example", tx(0, nil, o), 18216},
		{"example, value", tx(0, nil, outs(out(5, 11))), 18217},
		{"example, to", tx(0, nil, outs(out(6, 10))), 19225},
		{"example, tag", tx(1, nil, o), 33175},
		{"example, input", tx(0, ins(in(18216, 0)), outs(out(6, 10))), 91985},
		{"empty inputs", tx(0, []api.In{}, o), 18216},
		{"greatest tag", tx(api.MaxTag, nil, o), 56494},
		{"least to", tx(0, nil, outs(out(0, 10))), 13171},
		{"greatest to and value", tx(0, nil, outs(out(api.Base-1, api.MaxValue))), 4882},
		{"least input", tx(7, ins(in(0, 0)), o), 84491},
		{"greatest input", tx(7, ins(last), o), 22861},
		{"most inputs", tx(7, manyIns(api.MaxIns, last), o), 19983},
		{"most outputs", tx(7, nil, manyOuts(api.MaxOuts, out(5, 10))), 75823},
		{"all greatest", tx(api.MaxTag, manyIns(api.MaxIns, last), manyOuts(api.MaxOuts, out(api.Base-1, api.MaxValue))), 58385},
		{"two and two", tx(3, ins(in(1, 2), in(4, 5)), outs(out(6, 70), out(8, 90))), 66931},
		{"inputs swapped", tx(3, ins(in(4, 5), in(1, 2)), outs(out(6, 70), out(8, 90))), 89350},
		{"outputs swapped", tx(3, ins(in(1, 2), in(4, 5)), outs(out(8, 90), out(6, 70))), 730},
		{"right shape, id 0", tx(64262, nil, o), 0},
	} {
		if id := purse.Id(c.tx); id != c.want {
			t.Errorf("%s: Id(%v) = %d, want %d", c.name, c.tx, id, c.want)
		}
	}
}

func TestIdWithoutSealsP3(t *testing.T) {
	for _, seal := range [][]int{nil, {}, {0, 0, 0, 0, 0}, {1, 2, 3, 4, api.Base - 1}} {
		x := tx(0, ins(in(18216, 0, seal...)), outs(out(6, 10)))
		if id := purse.Id(x); id != 91985 {
			t.Errorf("with the seal %v: Id = %d, want 91985", seal, id)
		}
	}
}

func TestIdOfWrongShapeP3(t *testing.T) {
	o := outs(out(5, 10))
	for _, c := range []struct {
		name string
		tx   api.Tx
	}{
		{"nothing", api.Tx{}},
		{"no outputs", tx(0, nil, nil)},
		{"empty outputs", tx(0, nil, outs())},
		{"too many outputs", tx(0, nil, manyOuts(api.MaxOuts+1, out(5, 10)))},
		{"tag too small", tx(-1, nil, o)},
		{"tag too great", tx(api.MaxTag+1, nil, o)},
		{"tag least", tx(least, nil, o)},
		{"tag most", tx(most, nil, o)},
		{"to too small", tx(0, nil, outs(out(-1, 10)))},
		{"to too great", tx(0, nil, outs(out(api.Base, 10)))},
		{"value below dust", tx(0, nil, outs(out(5, api.Dust-1)))},
		{"value nought", tx(0, nil, outs(out(5, 0)))},
		{"value below nought", tx(0, nil, outs(out(5, -10)))},
		{"value too great", tx(0, nil, outs(out(5, api.MaxValue+1)))},
		{"value most", tx(0, nil, outs(out(5, most)))},
		{"last output wrong", tx(0, nil, append(manyOuts(api.MaxOuts-1, out(5, 10)), out(5, 9)))},
		{"too many inputs", tx(0, manyIns(api.MaxIns+1, in(3, 1)), o)},
		{"input id too small", tx(0, ins(in(-1, 0)), o)},
		{"input id too great", tx(0, ins(in(api.Base, 0)), o)},
		{"at too small", tx(0, ins(in(3, -1)), o)},
		{"at too great", tx(0, ins(in(3, api.MaxOuts)), o)},
		{"last input wrong", tx(0, append(manyIns(api.MaxIns-1, in(3, 1)), in(3, 8)), o)},
		{"seal of one", tx(0, ins(in(3, 1, 0)), o)},
		{"seal of four", tx(0, ins(in(3, 1, 0, 1, 2, 3)), o)},
		{"seal of six", tx(0, ins(in(3, 1, 0, 1, 2, 3, 4, 5)), o)},
		{"first of seal too small", tx(0, ins(in(3, 1, -1, 1, 2, 3, 4)), o)},
		{"last of seal too great", tx(0, ins(in(3, 1, 0, 1, 2, 3, api.Base)), o)},
		{"seal of second input wrong", tx(0, ins(in(3, 1, 0, 1, 2, 3, 4), in(3, 2, 0)), o)},
	} {
		if id := purse.Id(c.tx); id != 0 {
			t.Errorf("%s: Id(%v) = %d, want 0", c.name, c.tx, id)
		}
	}
}

func TestAddressP4(t *testing.T) {
	for _, c := range []struct {
		seed, branch, index, want int
		e                         api.Errno
	}{
		{0, 0, 0, 93131, api.OK},
		{5, 1, 2, 31146, api.OK},
		{0, 0, 1, 46018, api.OK},
		{0, 1, 0, 25868, api.OK},
		{0, 0, 99, 94361, api.OK},
		{0, 1, 99, 65264, api.OK},
		{99990, 0, 0, 8278, api.OK},
		{99990, 1, 99, 78778, api.OK},
		{12345, 0, 50, 83521, api.OK},
		{-1, 0, 0, 0, api.ErrArg},
		{api.Base, 0, 0, 0, api.ErrArg},
		{least, 0, 0, 0, api.ErrArg},
		{most, 1, 0, 0, api.ErrArg},
		{0, -1, 0, 0, api.ErrArg},
		{0, 2, 0, 0, api.ErrArg},
		{0, 0, -1, 0, api.ErrArg},
		{0, 0, 100, 0, api.ErrArg},
		{0, 1, 100, 0, api.ErrArg},
		{-1, 2, 100, 0, api.ErrArg},
	} {
		if a, e := purse.Address(c.seed, c.branch, c.index); a != c.want || e != c.e {
			t.Errorf("Address(%d, %d, %d) = %d, %d, want %d, %d", c.seed, c.branch, c.index, a, e, c.want, c.e)
		}
	}
}

func TestSealP4(t *testing.T) {
	for _, c := range []struct {
		seed, branch, index, id int
		want                    []int
		e                       api.Errno
	}{
		{0, 0, 0, 18216, []int{84801, 45389, 11, 263, 65066}, api.OK},
		{5, 1, 2, 0, []int{92884, 95159, 97436, 71883, 52836}, api.OK},
		{0, 0, 0, 0, []int{7, 8, 11, 69176, 65414}, api.OK},
		{0, 0, 0, 511, []int{25084, 26790, 43266, 16, 23}, api.OK},
		{0, 0, 0, 512, []int{7, 8, 11, 69176, 65414}, api.OK},
		{0, 0, 0, 99990, []int{3143, 5048, 10730, 263, 43352}, api.OK},
		{99990, 1, 99, 99990, []int{38400, 98123, 1823, 6878, 29400}, api.OK},
		{12345, 1, 50, 7, []int{6284, 56291, 72163, 27905, 16947}, api.OK},
		{0, 0, 99, 64, []int{49065, 9808, 9611, 36361, 89419}, api.OK},
		{-1, 0, 0, 0, nil, api.ErrArg},
		{api.Base, 0, 0, 0, nil, api.ErrArg},
		{0, -1, 0, 0, nil, api.ErrArg},
		{0, 2, 0, 0, nil, api.ErrArg},
		{0, 0, -1, 0, nil, api.ErrArg},
		{0, 0, 100, 0, nil, api.ErrArg},
		{0, 0, 0, -1, nil, api.ErrArg},
		{0, 0, 0, api.Base, nil, api.ErrArg},
		{0, 0, 0, least, nil, api.ErrArg},
		{0, 0, 0, most, nil, api.ErrArg},
	} {
		l, e := purse.Seal(c.seed, c.branch, c.index, c.id)
		if !slices.Equal(l, c.want) || e != c.e || (e != api.OK && l != nil) {
			t.Errorf("Seal(%d, %d, %d, %d) = %v, %d, want %v, %d", c.seed, c.branch, c.index, c.id, l, e, c.want, c.e)
		}
	}
}

func TestOpenP4(t *testing.T) {
	nought := []int{0, 0, 0, 0, 0}
	for _, c := range []struct {
		id   int
		seal []int
		want int
		e    api.Errno
	}{
		{0, nought, 31952, api.OK},
		{18216, []int{84801, 45389, 11, 263, 65066}, 93131, api.OK},
		{511, nought, 86012, api.OK},
		{0, []int{99990, 99990, 99990, 99990, 99990}, 98182, api.OK},
		{99990, []int{99990, 99990, 99990, 99990, 99990}, 36904, api.OK},
		{18216, []int{1, 2, 3, 4, 5}, 28424, api.OK},
		{18216, []int{5, 4, 3, 2, 1}, 78764, api.OK},
		{-1, nought, 0, api.ErrArg},
		{api.Base, nought, 0, api.ErrArg},
		{least, nil, 0, api.ErrArg},
		{most, []int{-1}, 0, api.ErrArg},
		{0, nil, 0, api.ErrShape},
		{0, []int{}, 0, api.ErrShape},
		{0, nought[:4], 0, api.ErrShape},
		{0, []int{0, 0, 0, 0, 0, 0}, 0, api.ErrShape},
		{0, []int{-1, 0, 0, 0, 0}, 0, api.ErrShape},
		{0, []int{0, 0, api.Base, 0, 0}, 0, api.ErrShape},
		{0, []int{0, 0, 0, 0, most}, 0, api.ErrShape},
	} {
		if a, e := purse.Open(c.id, c.seal); a != c.want || e != c.e {
			t.Errorf("Open(%d, %v) = %d, %d, want %d, %d", c.id, c.seal, a, e, c.want, c.e)
		}
	}
}

func TestSealOpensToAddressP4(t *testing.T) {
	for index := range api.MaxKeys {
		for _, id := range []int{index, 511 - index, api.Base - 1 - 97*index} {
			seed, branch := (index*7919)%api.Base, index%2
			a, _ := purse.Address(seed, branch, index)
			l, _ := purse.Seal(seed, branch, index, id)
			if x, e := purse.Open(id, l); x != a || e != api.OK {
				t.Fatalf("the seal of %d, %d, %d for %d opens to %d, %d, want %d", seed, branch, index, id, x, e, a)
			}
			if x, _ := purse.Open((id+1)%api.Base, l); x == a {
				t.Errorf("the seal of %d, %d, %d for %d opens to the address for the next id too", seed, branch, index, id)
			}
		}
	}
}

func mark(x int) bool { return x >= 0 && x < api.Base }

func TestStrangeNumbersP1(t *testing.T) {
	r := rand.New(rand.NewSource(1))
	pick := func() int { return strange[r.Intn(len(strange))] }
	for range 100000 {
		a, b, c, d := pick(), pick(), pick(), pick()
		key := mark(a) && (b == 0 || b == 1) && c >= 0 && c < api.MaxKeys
		if x, e := purse.Address(a, b, c); (e == api.OK) != key || !mark(x) || (e != api.OK && (e != api.ErrArg || x != 0)) {
			t.Fatalf("Address(%d, %d, %d) = %d, %d", a, b, c, x, e)
		}
		if l, e := purse.Seal(a, b, c, d); (e == api.OK) != (key && mark(d)) || (e != api.OK && (e != api.ErrArg || l != nil)) {
			t.Fatalf("Seal(%d, %d, %d, %d) = %v, %d", a, b, c, d, l, e)
		}
		l := make([]int, r.Intn(8))
		for j := range l {
			l[j] = pick()
		}
		if x, e := purse.Open(d, l); !mark(x) || (e != api.OK && x != 0) || (!mark(d) && e != api.ErrArg) || (mark(d) && len(l) != api.SealLen && e != api.ErrShape) {
			t.Fatalf("Open(%d, %v) = %d, %d", d, l, x, e)
		}
		x := tx(a, manyIns(r.Intn(13), in(b, c, l...)), manyOuts(r.Intn(11), out(d, pick())))
		if id := purse.Id(x); !mark(id) {
			t.Fatalf("Id(%v) = %d", x, id)
		}
	}
}

func TestLongListsP1(t *testing.T) {
	long := 1 << 20
	if id := purse.Id(tx(0, manyIns(long, in(3, 1)), outs(out(5, 10)))); id != 0 {
		t.Errorf("Id of many inputs = %d", id)
	}
	if id := purse.Id(tx(0, nil, manyOuts(long, out(5, 10)))); id != 0 {
		t.Errorf("Id of many outputs = %d", id)
	}
	if a, e := purse.Open(0, make([]int, long)); a != 0 || e != api.ErrShape {
		t.Errorf("Open of a long seal = %d, %d", a, e)
	}
}

// Behind each list that is handed in there is spare room, which must stay as it is too.
func TestHandedInStaysP2(t *testing.T) {
	room := []int{84801, 45389, 11, 263, 65066, 71, 72, 73}
	inRoom := ins(in(1, 2), in(3, 4), in(5, 6))
	inRoom[0].Seal = room[:5]
	outRoom := outs(out(5, 10), out(6, 11), out(7, 12))
	wasRoom, wasOuts := slices.Clone(room), slices.Clone(outRoom)
	x := tx(0, inRoom[:1], outRoom[:1])
	id := purse.Id(x)
	a, e := purse.Open(18216, room[:5])
	if a != 93131 || e != api.OK || id != purse.Id(x) {
		t.Errorf("Open = %d, %d; Id = %d and then %d", a, e, id, purse.Id(x))
	}
	if !slices.Equal(room, wasRoom) || !slices.Equal(outRoom, wasOuts) {
		t.Errorf("changed: %v, %v", room, outRoom)
	}
	for j, i := range ins(in(1, 2), in(3, 4), in(5, 6)) {
		if inRoom[j].Id != i.Id || inRoom[j].At != i.At || len(inRoom[j].Seal) != 5*(1-min(j, 1)) {
			t.Errorf("changed: %v", inRoom)
		}
	}
}

func TestSealsAreFreshP2(t *testing.T) {
	want := []int{84801, 45389, 11, 263, 65066}
	one, _ := purse.Seal(0, 0, 0, 18216)
	two, _ := purse.Seal(0, 0, 0, 18216)
	whole := one[:cap(one)]
	for j := range whole {
		whole[j] = -7
	}
	three, _ := purse.Seal(0, 0, 0, 18216)
	if !slices.Equal(two, want) || !slices.Equal(three, want) {
		t.Errorf("writing into one seal changed another: %v, %v", two, three)
	}
}
