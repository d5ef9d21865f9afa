package tx

import (
	"testing"

	"purse/api"
)

// A transaction of the right shape may have the id 0: only RightShape tells it from one of a wrong shape.
func TestIdNought(t *testing.T) {
	nought := api.Tx{Tag: 64262, Outs: []api.Out{{To: 5, Value: 10}}}
	if id := Id(nought); id != 0 || !RightShape(nought) {
		t.Errorf("the id is %d, want 0; the shape is right: %t", id, RightShape(nought))
	}
	if RightShape(api.Tx{}) {
		t.Error("a transaction without outputs has the right shape")
	}
}

func TestRightTag(t *testing.T) {
	for tag, want := range map[int]bool{-1 << 63: false, -1: false, 0: true, 1: true, api.MaxTag: true, api.MaxTag + 1: false, 1<<63 - 1: false} {
		if RightTag(tag) != want {
			t.Errorf("the tag %d is right: %t", tag, !want)
		}
	}
}

func TestRightOuts(t *testing.T) {
	o := api.Out{To: 5, Value: 10}
	for _, list := range [][]api.Out{{o}, {o, o}, {o, o, o, o, o, o, o, o}} {
		if !RightOuts(list) {
			t.Errorf("%d outputs are not right", len(list))
		}
	}
	for _, list := range [][]api.Out{nil, {}, {o, o, o, o, o, o, o, o, o}, {o, o, {To: 5, Value: 9}}, {{To: -1, Value: 10}, o}} {
		if RightOuts(list) {
			t.Errorf("%v are right", list)
		}
	}
}

func TestRightIns(t *testing.T) {
	i := api.In{Id: 3, At: 1}
	for _, list := range [][]api.In{nil, {}, {i}, {i, i}, {i, i, i, i, i, i, i, i, i, i}} {
		if !rightIns(list) {
			t.Errorf("%d inputs are not right", len(list))
		}
	}
	for _, list := range [][]api.In{{i, i, i, i, i, i, i, i, i, i, i}, {i, {At: 8}}, {{Id: -1}, i}} {
		if rightIns(list) {
			t.Errorf("%v are right", list)
		}
	}
}
