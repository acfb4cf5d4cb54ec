package allow

import (
	"math/rand"
	"testing"

	"lombard/api"
)

// checkNet holds Net against slowNet, and answers what it answered.
func checkNet(t *testing.T, l [3]Row) (Row, api.Errno) {
	t.Helper()
	got, e := Net(l)
	if want, wantE := slowNet(l); got != want || e != wantE {
		t.Fatalf("%+v: %+v, %d; wanted %+v, %d", l, got, e, want, wantE)
	}
	return got, e
}

// checkTies holds Ties against what it should answer, and against slowTies.
func checkTies(t *testing.T, r Row, want bool) {
	t.Helper()
	if got := Ties(r); got != want || slowTies(r) != want {
		t.Errorf("%+v: %v, slowly %v; wanted %v", r, got, slowTies(r), want)
	}
}

// rowsWith are three rows of which the numbers at a place are others.
func rowsWith(base [3]Row, at int, n [3]int64) [3]Row {
	for i := range base {
		base[i] = with(base[i], at, n[i])
	}
	return base
}

// P16.2: by hand: each number on its own, whether rows tie or not.
func TestNetNamed(t *testing.T) {
	for _, x := range []struct {
		l    [3]Row
		want Row
	}{
		{[3]Row{}, Row{}},
		{[3]Row{{1, 2, 3, 4, 5, 6}, {10, 20, 30, 40, 50, 60}, {100, 200, 300, 400, 500, 600}}, Row{111, 222, 333, 444, 555, 666}},
		{[3]Row{{1, 2, 3, 4, 5, 6}, {-1, -2, -3, -4, -5, -6}, {7, 8, 9, 10, 11, 12}}, Row{7, 8, 9, 10, 11, 12}},
		{[3]Row{{Open: 10, Out: 4, Close: 6}, {In: 4, Anew: 3, Close: 7}, {}}, Row{Open: 10, In: 4, Out: 4, Anew: 3, Close: 13}},
		{[3]Row{{Close: 5}, {Open: 3}, {In: -2}}, Row{Open: 3, In: -2, Close: 5}},
	} {
		if got, e := checkNet(t, x.l); got != x.want || e != api.OK {
			t.Errorf("%+v: %+v, %d", x.l, got, e)
		}
	}
}

// P16.2: in each of the six numbers, sums just within layer 1's bounds, and just beyond them; only the whole sum counts, in whichever order its parts come.
func TestNetBounds(t *testing.T) {
	base := [3]Row{{1, 2, 3, 4, 5, 6}, {10, 20, 30, 40, 50, 60}, {100, 200, 300, 400, 500, 600}}
	for _, x := range []struct {
		n    [3]int64
		want int64
		e    api.Errno
	}{
		{[3]int64{most, 0, 0}, most, api.OK},
		{[3]int64{most - 3, 1, 2}, most, api.OK},
		{[3]int64{most, 1, -1}, most, api.OK},
		{[3]int64{most, most, least}, most - 1, api.OK},
		{[3]int64{1 << 62, 1<<62 - 1, 0}, most, api.OK},
		{[3]int64{least, 0, 0}, least, api.OK},
		{[3]int64{least + 3, -1, -2}, least, api.OK},
		{[3]int64{least, -1, 1}, least, api.OK},
		{[3]int64{least, least + 1, most}, least, api.OK},
		{[3]int64{-1 << 62, -1 << 62, 0}, least, api.OK},
		{[3]int64{most, least, 0}, -1, api.OK},
		{[3]int64{most, 1, 0}, 0, api.ErrOver},
		{[3]int64{most - 2, 1, 2}, 0, api.ErrOver},
		{[3]int64{1 << 62, 1 << 62, 0}, 0, api.ErrOver},
		{[3]int64{most, most, most}, 0, api.ErrOver},
		{[3]int64{most, most, 2}, 0, api.ErrOver},
		{[3]int64{most, most, least + 2}, 0, api.ErrOver},
		{[3]int64{least, -1, 0}, 0, api.ErrOver},
		{[3]int64{least + 2, -1, -2}, 0, api.ErrOver},
		{[3]int64{-1 << 62, -1 << 62, -1}, 0, api.ErrOver},
		{[3]int64{least, least, least}, 0, api.ErrOver},
		{[3]int64{least, least, 0}, 0, api.ErrOver},
		{[3]int64{least, least, most}, 0, api.ErrOver},
	} {
		for at := range 6 {
			for _, n := range [][3]int64{x.n, {x.n[0], x.n[2], x.n[1]}, {x.n[1], x.n[0], x.n[2]}, {x.n[1], x.n[2], x.n[0]}, {x.n[2], x.n[0], x.n[1]}, {x.n[2], x.n[1], x.n[0]}} {
				want := Row{}
				if x.e == api.OK {
					want = with(Row{111, 222, 333, 444, 555, 666}, at, x.want)
				}
				if got, e := checkNet(t, rowsWith(base, at, n)); got != want || e != x.e {
					t.Errorf("%d of %v: %+v, %d; wanted %+v, %d", at, n, got, e, want, x.e)
				}
			}
		}
	}
}

// P16.2: several sums too great at once, upwards and downwards: the same error, and nothing beside it.
func TestNetSeveral(t *testing.T) {
	base := [3]Row{{1, 2, 3, 4, 5, 6}, {10, 20, 30, 40, 50, 60}, {100, 200, 300, 400, 500, 600}}
	for a := range 6 {
		for b := range 6 {
			for _, n := range [][3]int64{{most, 1, 0}, {0, least, -1}} {
				l := rowsWith(rowsWith(base, a, n), b, [3]int64{0, least, least})
				if got, e := checkNet(t, l); got != (Row{}) || e != api.ErrOver {
					t.Errorf("%+v: %+v, %d", l, got, e)
				}
			}
		}
	}
}

// P16.2: rows of the least and greatest numbers in each place, and of any.
func TestNetSome(t *testing.T) {
	ends := []int64{least, least + 1, -1 << 62, -1, 0, 1, 1 << 62, most - 1, most}
	for at := range 6 {
		for n := range 729 {
			checkNet(t, rowsWith([3]Row{}, at, [3]int64{ends[n%9], ends[n/9%9], ends[n/81]}))
		}
	}
	r := rand.New(rand.NewSource(2))
	for range 5000 {
		var l [3]Row
		for i := range l {
			for at := range 6 {
				l[i] = with(l[i], at, int64(r.Uint64())>>(1+r.Intn(40)))
			}
		}
		checkNet(t, l)
	}
}

// P16.2: rows that tie, and rows that are off by 1 in each number.
func TestTiesNamed(t *testing.T) {
	for _, r := range []Row{
		{},
		{Open: 1, In: 2, Anew: -1, Out: 3, Written: 4, Close: -5},
		{Open: 10, Out: 4, Close: 6},
		{In: 4, Anew: 3, Close: 7},
		{1, 20, 300, 4000, 50000, 1 + 20 - 300 + 4000 - 50000},
		{-1, -20, -300, -4000, -50000, -1 - 20 + 300 - 4000 + 50000},
		{Open: deep, Anew: 1 << 62, Written: 1 << 61, Close: deep + 1<<61},
	} {
		checkTies(t, r, true)
		for at := range 6 {
			n := *numberAt(&r, at)
			checkTies(t, with(r, at, n+1), false)
			checkTies(t, with(r, at, n-1), false)
		}
	}
}

// P16.2: a sum that is too great on the way, from the left, though the end is not.
func TestTiesOnTheWay(t *testing.T) {
	for _, r := range []Row{
		{Open: most, In: 1, Anew: -1, Close: most},
		{Open: most, In: 1, Out: 1, Close: most},
		{Open: most, In: 1, Written: 1, Close: most},
		{Open: 1, In: most, Out: 1, Close: most},
		{Open: most, Anew: 1, Out: 1, Close: most},
		{Open: most, Anew: 1, Written: 1, Close: most},
		{In: most, Anew: 1, Out: 2, Close: most - 1},
		{Open: most, Out: -1, Written: 1, Close: most},
		{Out: least, Written: 1, Close: most},
		{Open: least, In: -1, Anew: 1, Close: least},
		{Open: least, In: -1, Out: -1, Close: least},
		{Open: least, In: -1, Written: -1, Close: least},
		{Open: least, Anew: -1, Out: -1, Close: least},
		{Open: least, Anew: -1, Written: -1, Close: least},
		{Open: least, Out: 1, Written: -1, Close: least},
		{Open: least, In: least, Out: least, Written: least},
		{In: most, Anew: most, Out: most, Close: most},
	} {
		checkTies(t, r, false)
	}
}

// P16.2: an end that is too great itself ties with nothing, not with what it is if it goes round.
func TestTiesBeyond(t *testing.T) {
	for _, r := range []Row{
		{Open: most, Written: -1, Close: least},
		{Open: most, Out: -1, Close: least},
		{Open: most, In: 1, Close: least},
		{Open: most, Anew: 1, Close: least},
		{Open: least, Written: 1, Close: most},
		{Open: least, Out: 1, Close: most},
		{Open: least, In: -1, Close: most},
		{Open: least, Anew: -1, Close: most},
		{Out: least, Close: least},
		{Written: least, Close: least},
		{Open: most, In: most, Anew: 2},
	} {
		checkTies(t, r, false)
	}
}

// P16.2: what would be too great in another order, or if what is taken off were added up or turned round first, is not from the left.
func TestTiesFromTheLeft(t *testing.T) {
	for _, r := range []Row{
		{Open: -1, In: most, Anew: 1, Close: most},
		{Open: -1, In: 1, Anew: most, Close: most},
		{Open: least, In: 1, Out: 1, Close: least},
		{Open: least, Anew: 1, Out: 1, Close: least},
		{Open: least, In: 1, Written: 1, Close: least},
		{Open: most, Out: 1, Written: -1, Close: most},
		{Open: most, Out: most, Written: most, Close: least + 1},
		{Open: most, Out: most, Written: 1, Close: -1},
		{Open: -1, Out: least, Close: most},
		{Open: -1, Written: least, Close: most},
		{Open: -1, Out: least, Written: most},
		{Open: least, Out: least, Written: least + 1, Close: most},
		{Open: most, In: least, Anew: most, Out: most, Written: -1},
		{Open: most, Close: most},
		{Open: least, Close: least},
	} {
		checkTies(t, r, true)
	}
}

// P16.2: all rows of the least and greatest numbers and those about 0: none ties but that which slowly does, with the end as the machine has it, too.
func TestTiesAll(t *testing.T) {
	ends := []int64{least, least + 1, -1, 0, 1, most - 1, most}
	tie := 0
	for n := range 7 * 7 * 7 * 7 * 7 {
		r := Row{Open: ends[n%7], In: ends[n/7%7], Out: ends[n/49%7], Anew: ends[n/343%7], Written: ends[n/2401]}
		r.Close = r.Open + r.In + r.Anew - r.Out - r.Written
		checkTies(t, r, slowTies(r))
		if Ties(r) {
			tie++
			for at := range 6 {
				for _, other := range ends {
					c := with(r, at, other)
					checkTies(t, c, slowTies(c))
				}
			}
		}
	}
	if tie < 1000 {
		t.Error("too few:", tie)
	}
}
