package chart

import (
	"math"
	"math/rand"
	"slices"
	"testing"

	"lombard/api"
)

// P17.2: by hand: one line, several on an account, several accounts, accounts that are 0 together.
func TestNetNamed(t *testing.T) {
	for _, x := range []struct{ l, want []Line }{
		{nil, nil},
		{[]Line{}, nil},
		{[]Line{{Loans, 100}}, []Line{{Loans, 100}}},
		{[]Line{{Loans, 0}}, nil},
		{[]Line{{Loans, 100}, {Cash, -100}}, []Line{{Cash, -100}, {Loans, 100}}},
		{[]Line{{Loans, 5}, {Loans, -5}}, nil},
		{[]Line{{Loans, 5}, {Loans, -4}}, []Line{{Loans, 1}}},
		{[]Line{{3, 4}, {1, 2}, {3, -4}, {1, 3}, {7, -1}}, []Line{{1, 5}, {7, -1}}},
		{[]Line{{7, 7}, {6, 6}, {5, 5}, {4, 4}, {3, 3}, {2, 2}, {1, 1}}, []Line{{1, 1}, {2, 2}, {3, 3}, {4, 4}, {5, 5}, {6, 6}, {7, 7}}},
		{[]Line{{1, -1}, {7, 2}, {1, -1}, {7, 2}}, []Line{{1, -2}, {7, 4}}},
		{[]Line{{1, great + 1}, {2, -great - 1}}, []Line{{1, great + 1}, {2, -great - 1}}},
	} {
		checkNet(t, x.l, x.want, api.OK)
	}
}

// P17.2: that nothing else than an account's own amounts is in its sum, for each account and each two.
func TestNetEach(t *testing.T) {
	for a := Cash; a <= Recovered; a++ {
		checkNet(t, on(a, 3, -1, 4), []Line{{a, 6}}, api.OK)
		checkNet(t, on(a, 3, -1, -2), nil, api.OK)
		for b := a + 1; b <= Recovered; b++ {
			want := []Line{{a, 6}, {b, -60}}
			checkNet(t, append(on(a, 3, -1, 4), on(b, -30, 10, -40)...), want, api.OK)
			checkNet(t, append(on(b, -30, 10, -40), on(a, 3, -1, 4)...), want, api.OK)
			checkNet(t, append(on(b, -30, 30), on(a, 3, -1, 4)...), want[:1], api.OK)
			checkNet(t, append(on(b, -30, -30), on(a, 3, -3)...), want[1:], api.OK)
		}
	}
}

// sums are amounts, just within layer 1's bounds or just beyond; only the whole sum counts, not those on the way.
func sums() []struct {
	amounts []int64
	sum     int64
	e       api.Errno
} {
	return []struct {
		amounts []int64
		sum     int64
		e       api.Errno
	}{
		{[]int64{most}, most, api.OK},
		{[]int64{most - 1, 1}, most, api.OK},
		{[]int64{most, 1, -1}, most, api.OK},
		{[]int64{most, most, most, least, least}, most - 2, api.OK},
		{[]int64{1 << 62, 1<<62 - 1}, most, api.OK},
		{[]int64{least}, least, api.OK},
		{[]int64{least + 1, -1}, least, api.OK},
		{[]int64{least, -1, 1}, least, api.OK},
		{[]int64{least, least, most, 1}, least, api.OK},
		{[]int64{most, least}, -1, api.OK},
		{[]int64{most, 5, least, -4}, 0, api.OK},
		{[]int64{least, least, most, most, 2}, 0, api.OK},
		{[]int64{most, 1}, 0, api.ErrOver},
		{[]int64{most, 2, -1}, 0, api.ErrOver},
		{[]int64{most, most, least, 2}, 0, api.ErrOver},
		{[]int64{1 << 62, 1 << 62}, 0, api.ErrOver},
		{[]int64{most, most}, 0, api.ErrOver},
		{[]int64{most, most, 2}, 0, api.ErrOver}, // 2^64, that would go round to 0
		{[]int64{1 << 62, 1 << 62, 1 << 62, 1 << 62}, 0, api.ErrOver},
		{[]int64{least, -1}, 0, api.ErrOver},
		{[]int64{least, -2, 1}, 0, api.ErrOver},
		{[]int64{least, least}, 0, api.ErrOver}, // -2^64, too
		{[]int64{least, least, most}, 0, api.ErrOver},
	}
}

// P17.2: sums at layer 1's bounds, on each account alone, and with lines on all others ahead of them, behind them, and between.
func TestNetBounds(t *testing.T) {
	for _, x := range sums() {
		for account := Cash; account <= Recovered; account++ {
			var want, all, others []Line
			for a := Cash; a <= Recovered; a++ {
				if a != account {
					others = append(others, Line{a, -5})
					all = append(all, Line{a, -5})
				} else if x.sum != 0 {
					want = on(a, x.sum)
					all = append(all, want...)
				}
			}
			if x.e != api.OK {
				want, all = nil, nil
			}
			mine := on(account, x.amounts...)
			checkNet(t, mine, want, x.e)
			checkNet(t, append(slices.Clone(others), mine...), all, x.e)
			checkNet(t, append(slices.Clone(mine), others...), all, x.e)
			checkNet(t, slices.Insert(slices.Clone(mine), 1, others...), all, x.e)
		}
	}
}

// P17.2: each account's sum counts on its own: several at a bound, and several beyond it; what would set one off on another account doesn't.
func TestNetSeveral(t *testing.T) {
	for a := Cash; a <= Recovered; a++ {
		for b := a + 1; b <= Recovered; b++ {
			checkNet(t, append(on(b, most), on(a, most)...), []Line{{a, most}, {b, most}}, api.OK)
			checkNet(t, append(on(a, least), on(b, most)...), []Line{{a, least}, {b, most}}, api.OK)
			checkNet(t, append(on(a, most, 1), on(b, -1, least)...), nil, api.ErrOver)
			checkNet(t, append(on(a, most), on(b, most, 1)...), nil, api.ErrOver)
			checkNet(t, append(on(a, most, 1), on(b, 0)...), nil, api.ErrOver)
			checkNet(t, append(on(a, least, -1), on(b, 7, 1)...), nil, api.ErrOver)
		}
	}
	var full []Line
	for a := Cash; a <= Recovered; a++ {
		full = append(full, on(a, most, 1)...)
	}
	checkNet(t, full, nil, api.ErrOver)
}

// P17.2: a wrong account at the first, a middle and the last place, whatever its amount; it is told ahead of a sum that is too great.
func TestNetWrongAccount(t *testing.T) {
	for _, n := range wrongNumbers() {
		for _, amount := range []int64{0, 1, -1, great + 1, most, least} {
			x := Line{n, amount}
			checkNet(t, []Line{x}, nil, api.ErrArg)
			checkNet(t, []Line{x, {n, -amount}}, nil, api.ErrArg)
			for at := range 5 {
				checkNet(t, slices.Insert(pairs(4, 7), at, x), nil, api.ErrArg)
				checkNet(t, slices.Insert(on(Cash, most, 1, most, 1), at, x), nil, api.ErrArg)
				checkNet(t, slices.Insert(on(Recovered, least, -1, 2, least), at, x), nil, api.ErrArg)
			}
			long := pairs(1000, 7)
			long[999] = x
			checkNet(t, long, nil, api.ErrArg)
		}
	}
	checkNet(t, []Line{{math.MinInt, most}, {math.MaxInt, least}, {0, 0}}, nil, api.ErrArg)
}

// P17.2: lines may be netted that may not be: more than 64, amounts of 0 and beyond 2^50, such that aren't 0 all together.
func TestNetOfAny(t *testing.T) {
	checkNet(t, make([]Line, 1), nil, api.ErrArg)
	checkNet(t, slices.Repeat([]Line{{Cash, 0}}, 100), nil, api.OK)
	checkNet(t, slices.Repeat([]Line{{Cash, 3}, {Loans, -2}}, room), []Line{{Cash, 192}, {Loans, -128}}, api.OK)
	checkNet(t, slices.Repeat([]Line{{Cash, great}}, 8191), []Line{{Cash, 8191 * great}}, api.OK)
	checkNet(t, slices.Repeat([]Line{{Cash, great}}, 8192), nil, api.ErrOver)
	checkNet(t, slices.Repeat([]Line{{Cash, -great}}, 8192), []Line{{Cash, least}}, api.OK)
	checkNet(t, slices.Repeat([]Line{{Cash, most}, {Loans, least}, {Cash, least}, {Loans, most}, {Effects, 1}}, 50000), []Line{{Cash, -50000}, {Loans, -50000}, {Effects, 50000}}, api.OK)
	for _, n := range append(wrongAmounts(), amounts()...) {
		if n != 0 {
			checkNet(t, on(Income, n), on(Income, n), api.OK)
		}
	}
}

// P17.2: lines anyhow, and these in other orders.
func TestNetAnyhow(t *testing.T) {
	r := rand.New(rand.NewSource(3))
	for range 2000 {
		l := someLines(r, r.Intn(40))
		want, e := checkSlow(t, l)
		slices.Reverse(l)
		for range 4 {
			checkNet(t, l, want, e)
			r.Shuffle(len(l), func(i, j int) { l[i], l[j] = l[j], l[i] })
		}
	}
}
