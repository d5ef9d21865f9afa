package tx

import (
	"slices"
	"testing"

	"purse/api"
)

// A transaction of the right shape may have the id 0: only RightShape tells it from one of a wrong shape.
func TestIdNought(t *testing.T) {
	nought := api.Tx{Tag: 64262, Outs: []api.Out{{To: 5, Value: 10}}}
	if id := Id(nought); id != 0 || !RightShape(nought) {
		t.Errorf("the id is %d, want 0; the shape is right: %t", id, RightShape(nought))
	}
	if RightShape(api.Tx{}) {
		t.Error("a transaction without outputs has the right shape")
	}
}

func TestRightTag(t *testing.T) {
	for tag, want := range map[int]bool{-1 << 63: false, -1: false, 0: true, 1: true, api.MaxTag: true, api.MaxTag + 1: false, 1<<63 - 1: false} {
		if RightTag(tag) != want {
			t.Errorf("the tag %d is right: %t", tag, !want)
		}
	}
}

func TestRightOuts(t *testing.T) {
	o := api.Out{To: 5, Value: 10}
	for _, list := range [][]api.Out{{o}, {o, o}, {o, o, o, o, o, o, o, o}} {
		if !RightOuts(list) {
			t.Errorf("%d outputs are not right", len(list))
		}
	}
	for _, list := range [][]api.Out{nil, {}, {o, o, o, o, o, o, o, o, o}, {o, o, {To: 5, Value: 9}}, {{To: -1, Value: 10}, o}} {
		if RightOuts(list) {
			t.Errorf("%v are right", list)
		}
	}
}

func TestRightIns(t *testing.T) {
	i := api.In{Id: 3, At: 1}
	for _, list := range [][]api.In{nil, {}, {i}, {i, i}, {i, i, i, i, i, i, i, i, i, i}} {
		if !rightIns(list) {
			t.Errorf("%d inputs are not right", len(list))
		}
	}
	for _, list := range [][]api.In{{i, i, i, i, i, i, i, i, i, i, i}, {i, {At: 8}}, {{Id: -1}, i}} {
		if rightIns(list) {
			t.Errorf("%v are right", list)
		}
	}
}

func TestUnsealed(t *testing.T) {
	coins := []api.Coin{{Id: 3, At: 1, To: 5, Value: 50, Branch: 1, Index: 2}, {Id: 2, At: 7, To: 6, Value: 60}}
	room := []api.Out{{To: 8, Value: 10}, {To: 9, Value: 20}}
	outs := room[:1]
	for range 2 {
		x := Unsealed(coins, outs, 4)
		if x.Tag != 4 || len(x.Ins) != 2 || !slices.Equal(x.Outs, outs) {
			t.Fatalf("the transaction is %v", x)
		}
		for i, in := range x.Ins {
			if in.Id != coins[i].Id || in.At != coins[i].At || in.Seal != nil {
				t.Errorf("the input %d is %v, the coin %v", i, in, coins[i])
			}
		}
		x.Outs[0] = api.Out{}
		x.Outs = append(x.Outs, api.Out{})
		x.Ins[0] = api.In{}
	}
	if !slices.Equal(room, []api.Out{{To: 8, Value: 10}, {To: 9, Value: 20}}) {
		t.Errorf("what was handed in is %v now", room)
	}
}
