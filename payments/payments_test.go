package payments

import (
	"testing"

	"purse/api"
)

// pay is what the payments of these tests pay.
var pay = []api.Out{{To: 5, Value: 10}}

func adds(t *testing.T, l *List, number int, change int, coins ...api.Coin) {
	t.Helper()
	if n := l.Add(coins, pay, 7, change); n != number {
		t.Errorf("the number is %d, want %d", n, number)
	}
}

func abandons(t *testing.T, l *List, number int, want api.Errno) {
	t.Helper()
	if e := l.Abandon(number); e != want {
		t.Errorf("Abandon(%d) = %d, want %d", number, e, want)
	}
}

// holds names outputs as ten times the id and the number.
func holds(t *testing.T, l *List, held ...int) {
	t.Helper()
	for spot := range 50 {
		want := false
		for _, h := range held {
			want = want || h == spot
		}
		if l.holds(spot/10, spot%10) != want {
			t.Errorf("%d.%d is held: %t", spot/10, spot%10, !want)
		}
	}
}

func TestHoldsP9P11(t *testing.T) {
	var l List
	holds(t, &l)
	abandons(t, &l, 0, api.ErrPaid)
	adds(t, &l, 0, -1, api.Coin{Id: 1, At: 2}, api.Coin{Id: 2, At: 1})
	holds(t, &l, 12, 21)
	adds(t, &l, 1, -1, api.Coin{Id: 0, At: 0})
	adds(t, &l, 2, -1, api.Coin{Id: 4, At: 7}, api.Coin{Id: 0, At: 0})
	holds(t, &l, 12, 21, 0, 47)
	abandons(t, &l, 1, api.OK)
	abandons(t, &l, 1, api.ErrPaid)
	holds(t, &l, 12, 21, 0, 47)
	abandons(t, &l, 2, api.OK)
	holds(t, &l, 12, 21)
	for _, n := range []int{-1 << 63, -1, 1, 2, 3, 1<<63 - 1} {
		abandons(t, &l, n, api.ErrPaid)
	}
	abandons(t, &l, 0, api.OK)
	holds(t, &l)
	adds(t, &l, 3, -1, api.Coin{Id: 1, At: 2})
	holds(t, &l, 12)
}

func TestCoinsAreNotKeptP2(t *testing.T) {
	var l List
	coins := []api.Coin{{Id: 1, At: 2}, {Id: 3, At: 4}}
	adds(t, &l, 0, -1, coins[:1]...)
	coins[0], coins[1] = api.Coin{}, api.Coin{}
	holds(t, &l, 12)
}

func TestNextChangeP10(t *testing.T) {
	var l List
	for n, x := range []struct{ change, next int }{{-1, 0}, {0, 1}, {-1, 1}, {3, 4}, {-1, 4}, {99, 100}} {
		adds(t, &l, n, x.change, api.Coin{Id: 1})
		if l.NextChange() != x.next {
			t.Errorf("after the change %d: next %d, want %d", x.change, l.NextChange(), x.next)
		}
		abandons(t, &l, n, api.OK)
		if l.NextChange() != x.next {
			t.Errorf("the abandoned change %d is given again", x.change)
		}
	}
}
