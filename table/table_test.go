package table

import (
	"math"
	"math/big"
	"math/rand"
	"slices"
	"sync"
	"testing"

	"lombard/api"
	"lombard/eir"
	"lombard/rate"
)

const (
	unit  = api.Unit
	tenth = api.Unit / 10
	rich  = api.MaxMoney
	room  = api.MaxPeriods
	least = math.MinInt64
	most  = math.MaxInt64
	edge  = 1 << 62 // how far from 0 a Close may be, as the chapter has it
)

// wrongAmounts are beyond 0 to MaxMoney: one beyond, and far.
func wrongAmounts() []int64 {
	return []int64{-1, -2, rich + 1, rich + 2, -rich, -rich - 1, 2 * rich, 1000 * rich, 1 << 61, -1 << 61, edge, -edge, edge + 1, least, least + 1, most - 1, most}
}

// wrongOutlays are beyond 1 to MaxMoney.
func wrongOutlays() []int64 {
	return append([]int64{0}, wrongAmounts()...)
}

// wrongRates are beyond MinRate to MaxRate.
func wrongRates() []int64 {
	return []int64{api.MinRate - 1, api.MaxRate + 1, api.MinRate - 2, api.MaxRate + 2, -unit, -unit - 1, -2 * unit, edge, -edge, least, least + 1, most - 1, most}
}

// rates may be: both bounds, 0, and those beside them; some at which halves come about, and some ordinary ones.
func rates() []int64 {
	return []int64{api.MinRate, api.MinRate + 1, -unit / 2, -tenth, -1, 0, 1, unit / 200, tenth / 2, tenth, unit / 2, unit, api.MaxRate - 1, api.MaxRate}
}

func anyRates() []int64 {
	return append(rates(), wrongRates()...)
}

func repeat(n int64, times int) []int64 {
	return slices.Repeat([]int64{n}, times)
}

// row is lists one behind the other, in new memory.
func row(lists ...[]int64) []int64 {
	return slices.Concat(lists...)
}

// slowInterest is layer 3's, in numbers of any size: to the nearer one, to the even one of two.
func slowInterest(x *big.Int, r int64) *big.Int {
	by := big.NewInt(unit)
	n, rest := new(big.Int).DivMod(new(big.Int).Mul(x, big.NewInt(r)), by, new(big.Int))
	half := rest.Lsh(rest, 1).Cmp(by)
	if half > 0 || half == 0 && n.Bit(0) == 1 {
		n.Add(n, big.NewInt(1))
	}
	return n
}

func slowMay(outlay int64, l []int64, r int64) bool {
	if len(l) < 1 || len(l) > 600 || slices.Min(l) < 0 || slices.Max(l) > 10000000000000 {
		return false
	}
	return outlay >= 1 && outlay <= 10000000000000 && r >= -990000000000 && r <= 10000000000000
}

// slowRoll is P11.1 word by word, in numbers of any size.
func slowRoll(outlay int64, l []int64, r int64) ([]Row, api.Errno) {
	if !slowMay(outlay, l, r) {
		return nil, api.ErrArg
	}
	var rows []Row
	open := big.NewInt(outlay)
	for i, n := range l {
		interest := slowInterest(open, r)
		if i == len(l)-1 {
			interest = new(big.Int).Sub(big.NewInt(n), open)
		}
		end := new(big.Int).Add(open, interest)
		end.Sub(end, big.NewInt(n))
		if !interest.IsInt64() || end.CmpAbs(big.NewInt(edge)) > 0 {
			return nil, api.ErrOver
		}
		rows = append(rows, Row{open.Int64(), interest.Int64(), n, end.Int64()})
		open = end
	}
	return rows, api.OK
}

// whole is a number as a call answers it, if it is one of 64 bits.
func whole(n *big.Int) (int64, api.Errno) {
	if !n.IsInt64() {
		return 0, api.ErrOver
	}
	return n.Int64(), api.OK
}

// slowSums is P11.2's of Sums, in numbers of any size.
func slowSums(l []Row) (int64, int64, api.Errno) {
	interests, paids := new(big.Int), new(big.Int)
	for _, w := range l {
		interests.Add(interests, big.NewInt(w.Interest))
		paids.Add(paids, big.NewInt(w.Paid))
	}
	interest, e := whole(interests)
	if e != api.OK {
		return 0, 0, e
	}
	paid, e := whole(paids)
	if e != api.OK {
		return 0, 0, e
	}
	return interest, paid, e
}

// slowPlug is P11.2's of Plug, in numbers of any size.
func slowPlug(l []Row, r int64) (int64, api.Errno) {
	if len(l) == 0 {
		return 0, api.ErrNone
	}
	if r < -990000000000 || r > 10000000000000 {
		return 0, api.ErrArg
	}
	last := l[len(l)-1]
	interest := slowInterest(big.NewInt(last.Open), r)
	if _, e := whole(interest); e != api.OK {
		return 0, e
	}
	return whole(new(big.Int).Sub(big.NewInt(last.Interest), interest))
}

// told is a list in short, for a test that fails.
func told[T any](l []T) []T {
	return l[:min(len(l), 12)]
}

func checkRoll(t *testing.T, outlay int64, l []int64, r int64, want []Row, wantE api.Errno) {
	t.Helper()
	if rows, e := Roll(outlay, l, r); !slices.Equal(rows, want) || e != wantE {
		t.Fatalf("Roll of %d and %d: %v at %d: %d: %v, %d; want %d: %v, %d", outlay, len(l), told(l), r, len(rows), told(rows), e, len(want), told(want), wantE)
	}
}

func checkSums(t *testing.T, l []Row, interest, paid int64, want api.Errno) {
	t.Helper()
	if a, b, e := Sums(l); a != interest || b != paid || e != want {
		t.Fatalf("Sums of %d: %v: %d, %d, %d; want %d, %d, %d", len(l), told(l), a, b, e, interest, paid, want)
	}
}

func checkPlug(t *testing.T, l []Row, r, want int64, wantE api.Errno) {
	t.Helper()
	if n, e := Plug(l, r); n != want || e != wantE {
		t.Fatalf("Plug of %d: %v at %d: %d, %d; want %d, %d", len(l), told(l), r, n, e, want, wantE)
	}
}

// checkSlow holds all calls against the chapter word by word.
func checkSlow(t *testing.T, outlay int64, l []int64, r int64) {
	t.Helper()
	want, wantE := slowRoll(outlay, l, r)
	checkRoll(t, outlay, l, r, want, wantE)
	checkSlowRows(t, want, r)
}

func checkSlowRows(t *testing.T, l []Row, r int64) {
	t.Helper()
	interest, paid, e := slowSums(l)
	checkSums(t, l, interest, paid, e)
	n, e := slowPlug(l, r)
	checkPlug(t, l, r, n, e)
}

// someAmount may be; of any width, so that small ones come too.
func someAmount(r *rand.Rand) int64 {
	return r.Int63n(rich+1) >> r.Intn(44)
}

// someRate may be; half of them are near 0, as rates are.
func someRate(r *rand.Rand) int64 {
	switch r.Intn(4) {
	case 0, 1:
		return r.Int63n(unit/5) - tenth
	case 2:
		return rates()[r.Intn(len(rates()))]
	}
	return api.MinRate + r.Int63n(api.MaxRate-api.MinRate+1)
}

func someAmounts(r *rand.Rand, up int) []int64 {
	l := make([]int64, 1+r.Intn(up))
	for i := range l {
		l[i] = someAmount(r)
	}
	return l
}

// someNumber is any of 64 bits, those at the edges often.
func someNumber(r *rand.Rand) int64 {
	edges := []int64{0, 1, -1, rich, -rich, edge, -edge, least, most, api.MinRate, api.MaxRate}
	if r.Intn(2) == 0 {
		return edges[r.Intn(len(edges))] + int64(r.Intn(3)-1) // beyond the last of 64 bits it goes round, to another edge
	}
	return int64(r.Uint64()) >> r.Intn(64)
}

func someRow(r *rand.Rand) Row {
	return Row{someNumber(r), someNumber(r), someNumber(r), someNumber(r)}
}

// P11.1 Roll: worked out by hand; the document's example first.
func TestNamed(t *testing.T) {
	for _, x := range []struct {
		outlay int64
		l      []int64
		r      int64
		want   []Row
	}{
		{1000, []int64{500, 605}, tenth, []Row{{1000, 100, 500, 600}, {600, 5, 605, 0}}},
		{1000, []int64{500, 660}, tenth, []Row{{1000, 100, 500, 600}, {600, 60, 660, 0}}},
		{1000, []int64{100, 100, 1100}, tenth, []Row{{1000, 100, 100, 1000}, {1000, 100, 100, 1000}, {1000, 100, 1100, 0}}},
		{1000, []int64{0, 0, 1331}, tenth, []Row{{1000, 100, 0, 1100}, {1100, 110, 0, 1210}, {1210, 121, 1331, 0}}},
		{1000, []int64{400, 400, 200}, 0, []Row{{1000, 0, 400, 600}, {600, 0, 400, 200}, {200, 0, 200, 0}}},
		{1000, []int64{400, 400, 201}, 0, []Row{{1000, 0, 400, 600}, {600, 0, 400, 200}, {200, 1, 201, 0}}},
		{1000, []int64{400, 500}, -tenth, []Row{{1000, -100, 400, 500}, {500, 0, 500, 0}}},
		{1000, []int64{5, 5}, api.MinRate, []Row{{1000, -990, 5, 5}, {5, 0, 5, 0}}},
		{1000, []int64{1000, 7}, api.MaxRate, []Row{{1000, 10000, 1000, 10000}, {10000, -9993, 7, 0}}},
		{1000, []int64{5000, 11000}, api.MaxRate, []Row{{1000, 10000, 5000, 6000}, {6000, 5000, 11000, 0}}},
		{1000, []int64{1100, 0}, tenth, []Row{{1000, 100, 1100, 0}, {0, 0, 0, 0}}},
		{1000, []int64{1100, 50, 0}, tenth, []Row{{1000, 100, 1100, 0}, {0, 0, 50, -50}, {-50, 50, 0, 0}}},
		{1000, []int64{0, 0}, tenth, []Row{{1000, 100, 0, 1100}, {1100, -1100, 0, 0}}},
	} {
		checkRoll(t, x.outlay, x.l, x.r, x.want, api.OK)
		checkSlow(t, x.outlay, x.l, x.r)
	}
}

// P11.1: halves of interest go to the even one, on both sides of 0, and each row is rounded, not the whole.
func TestBetween(t *testing.T) {
	for _, x := range []struct {
		outlay int64
		l      []int64
		r      int64
		want   []Row
	}{
		{5, []int64{0, 5}, tenth, []Row{{5, 0, 0, 5}, {5, 0, 5, 0}}},
		{15, []int64{0, 17}, tenth, []Row{{15, 2, 0, 17}, {17, 0, 17, 0}}},
		{25, []int64{0, 27}, tenth, []Row{{25, 2, 0, 27}, {27, 0, 27, 0}}},
		{4, []int64{0, 0, 4}, tenth, []Row{{4, 0, 0, 4}, {4, 0, 0, 4}, {4, 0, 4, 0}}},
		{1, []int64{6, 0, 0}, 0, []Row{{1, 0, 6, -5}, {-5, 0, 0, -5}, {-5, 5, 0, 0}}},
		{1, []int64{6, 0, 0}, tenth, []Row{{1, 0, 6, -5}, {-5, 0, 0, -5}, {-5, 5, 0, 0}}},
		{1, []int64{16, 0, 0}, tenth, []Row{{1, 0, 16, -15}, {-15, -2, 0, -17}, {-17, 17, 0, 0}}},
		{15, []int64{0, 13}, -tenth, []Row{{15, -2, 0, 13}, {13, 0, 13, 0}}},
		{5, []int64{0, 5}, -tenth, []Row{{5, 0, 0, 5}, {5, 0, 5, 0}}},
		{1, []int64{0, 1}, unit / 2, []Row{{1, 0, 0, 1}, {1, 0, 1, 0}}},
		{3, []int64{0, 5}, unit / 2, []Row{{3, 2, 0, 5}, {5, 0, 5, 0}}},
	} {
		checkRoll(t, x.outlay, x.l, x.r, x.want, api.OK)
	}
}

// P11.1: of one amount the first row is the last, whose interest doesn't hang on the rate.
func TestOne(t *testing.T) {
	for _, outlay := range []int64{1, 2, 100, rich - 1, rich} {
		for _, paid := range []int64{0, 1, 2, 110, rich - 1, rich} {
			for _, r := range rates() {
				checkRoll(t, outlay, []int64{paid}, r, []Row{{outlay, paid - outlay, paid, 0}}, api.OK)
			}
		}
	}
}

// P11.1: of two amounts the first row's interest is the rate's, the second one's is what is left.
func TestTwo(t *testing.T) {
	for _, outlay := range []int64{1, 2, 15, 100, rich - 1, rich} {
		for _, first := range []int64{0, 1, 110, rich - 1, rich} {
			for _, second := range []int64{0, 1, 110, rich - 1, rich} {
				for _, r := range rates() {
					interest, _ := rate.Interest(outlay, r)
					left := outlay + interest - first
					checkRoll(t, outlay, []int64{first, second}, r, []Row{{outlay, interest, first, left}, {left, second - left, second, 0}}, api.OK)
				}
			}
		}
	}
}

// P11.1 ErrArg, rule 3: no amounts, nil and empty, whatever lies behind them.
func TestNone(t *testing.T) {
	for _, l := range [][]int64{nil, {}, make([]int64, 0, 5), []int64{105, 5}[:0]} {
		for _, outlay := range append(wrongOutlays(), 1, 100, rich) {
			for _, r := range anyRates() {
				checkRoll(t, outlay, l, r, nil, api.ErrArg)
			}
		}
	}
}

// P11.1 ErrArg: as many amounts as there may be, and one more.
func TestCount(t *testing.T) {
	for _, n := range []int64{0, 1, rich / room, rich - 1, rich} {
		for _, length := range []int{1, 2, room - 1, room} {
			rows, e := Roll(rich, repeat(n, length), 0)
			if len(rows) != length || e != api.OK {
				t.Fatalf("%d of %d: %d, %d", length, n, len(rows), e)
			}
			checkSlow(t, rich, repeat(n, length), 0)
			checkSlow(t, 1, repeat(n, length), 0)
			checkSlow(t, rich/2, repeat(n, length), unit/1000)
		}
		for _, length := range []int{room + 1, room + 2, 2 * room, 1 << 16} {
			checkRoll(t, rich, repeat(n, length), 0, nil, api.ErrArg)
			checkRoll(t, 1, repeat(n, length), api.MaxRate, nil, api.ErrArg)
		}
	}
}

// P11.1 ErrArg: an amount that may not be, at each place of short lists and of the longest one; and those at the bounds, that may.
func TestAmounts(t *testing.T) {
	for _, length := range []int{1, 2, 3, 7, room} {
		for at := range length {
			for _, wrong := range wrongAmounts() {
				l := repeat(5, length)
				l[at] = wrong
				checkRoll(t, 10, l, tenth, nil, api.ErrArg)
			}
			for _, right := range []int64{0, 1, rich - 1, rich} {
				l := repeat(5, length)
				l[at] = right
				if rows, e := Roll(10, l, 0); e != api.OK || rows[at].Paid != right {
					t.Fatalf("%d at %d of %d: %d", right, at, length, e)
				}
				checkSlow(t, 10, l, 0)
			}
		}
	}
	for _, wrong := range wrongAmounts() {
		checkRoll(t, 10, repeat(wrong, room), 0, nil, api.ErrArg)
		checkRoll(t, 10, repeat(wrong, room+1), 0, nil, api.ErrArg)
	}
}

// P11.1 ErrArg: an outlay that may not be; and those at the bounds, that may.
func TestOutlays(t *testing.T) {
	for _, l := range [][]int64{{0}, {1}, {105}, {rich}, {500, 605}, repeat(rich, room), repeat(0, room)} {
		for _, wrong := range wrongOutlays() {
			for _, r := range rates() {
				checkRoll(t, wrong, l, r, nil, api.ErrArg)
			}
		}
		for _, right := range []int64{1, 2, rich - 1, rich} {
			if rows, e := Roll(right, l, 0); e != api.OK || rows[0].Open != right {
				t.Fatalf("%d and %v: %d", right, told(l), e)
			}
			checkSlow(t, right, l, 0)
		}
	}
}

// P11.1 ErrArg: a rate that may not be, though one row alone doesn't ask it; and those at the bounds, that may.
func TestRates(t *testing.T) {
	for _, l := range [][]int64{{0}, {105}, {500, 605}, {1, 2, 3}} {
		for _, outlay := range []int64{1, 100, rich} {
			for _, wrong := range wrongRates() {
				checkRoll(t, outlay, l, wrong, nil, api.ErrArg)
			}
			for _, right := range rates() {
				if rows, e := Roll(outlay, l, right); e != api.OK || len(rows) != len(l) {
					t.Fatalf("%d and %v at %d: %d", outlay, l, right, e)
				}
				checkSlow(t, outlay, l, right)
			}
		}
	}
}

// P11.1: ErrArg comes ahead of ErrOver, and wrong amounts, a wrong outlay and a wrong rate together are ErrArg too.
func TestArgFirst(t *testing.T) {
	for _, outlay := range wrongOutlays() {
		for _, amount := range wrongAmounts() {
			for _, r := range wrongRates() {
				checkRoll(t, outlay, []int64{amount}, r, nil, api.ErrArg)
				checkRoll(t, outlay, []int64{1, amount}, r, nil, api.ErrArg)
				checkRoll(t, outlay, []int64{1}, r, nil, api.ErrArg)
				checkRoll(t, 1, []int64{amount}, r, nil, api.ErrArg)
			}
			checkRoll(t, outlay, []int64{amount}, 0, nil, api.ErrArg)
		}
	}
	over := repeat(0, 20)
	checkRoll(t, rich, over, api.MaxRate, nil, api.ErrOver)
	checkRoll(t, rich, row(over, []int64{-1}), api.MaxRate, nil, api.ErrArg)
	checkRoll(t, rich, row(over, []int64{rich + 1}), api.MaxRate, nil, api.ErrArg)
	checkRoll(t, rich, row(over, repeat(0, room)), api.MaxRate, nil, api.ErrArg)
	checkRoll(t, rich, over, api.MaxRate+1, nil, api.ErrArg)
	checkRoll(t, rich+1, over, api.MaxRate, nil, api.ErrArg)
}

// P11.1: a Close of 2^62, one below and one beyond it, by twofold rows: 2^43, and 2^19 less.
func TestUpperBound(t *testing.T) {
	double := func(paid int64) []int64 { return row(repeat(0, 18), []int64{paid, 7}) }
	for _, x := range []struct{ outlay, paid, want int64 }{
		{1 << 43, 0, edge},
		{1 << 43, 1, edge - 1},
		{1<<43 + 1, 1 << 19, edge},
		{1<<43 + 1, 1<<19 + 1, edge - 1},
	} {
		rows, e := Roll(x.outlay, double(x.paid), unit)
		if e != api.OK {
			t.Fatalf("%d: %d", x.paid, e)
		}
		if rows[18].Close != x.want || rows[19] != (Row{x.want, 7 - x.want, 7, 0}) {
			t.Errorf("%d: %v", x.paid, rows[18:])
		}
		checkSlow(t, x.outlay, double(x.paid), unit)
	}
	checkRoll(t, 1<<43+1, double(1<<19-1), unit, nil, api.ErrOver)
	checkRoll(t, 1<<43+1, double(0), unit, nil, api.ErrOver)
	checkRoll(t, 1<<43, row(repeat(0, 20), []int64{7}), unit, nil, api.ErrOver)
	checkRoll(t, 1, repeat(0, 64), unit, nil, api.ErrOver)
	if rows, e := Roll(1, repeat(0, 63), unit); e != api.OK || rows[61].Close != edge || rows[62].Interest != -edge {
		t.Error(e)
	}
}

// P11.1: a Close of -2^62, one above and one beyond it: what is paid too much falls twofold.
func TestLowerBound(t *testing.T) {
	fall := func(paid, last int64) []int64 { return row([]int64{paid}, repeat(0, 18), []int64{last, 7}) }
	const deep = 1<<43 + 2 // 1 and its interest less this is -2^43
	for _, x := range []struct{ paid, last, want int64 }{
		{deep, 0, -edge},
		{deep - 1, 1<<19 - 1, 1 - edge},
		{deep - 1, 1 << 19, -edge},
	} {
		rows, e := Roll(1, fall(x.paid, x.last), unit)
		if e != api.OK {
			t.Fatalf("%d: %d", x.last, e)
		}
		if rows[19].Close != x.want || rows[20] != (Row{x.want, 7 - x.want, 7, 0}) {
			t.Errorf("%d: %v", x.last, rows[19:])
		}
		checkSlow(t, 1, fall(x.paid, x.last), unit)
	}
	checkRoll(t, 1, fall(deep, 1), unit, nil, api.ErrOver)
	checkRoll(t, 1, fall(deep-1, 1<<19+1), unit, nil, api.ErrOver)
	checkRoll(t, 1, fall(deep, rich), unit, nil, api.ErrOver)
	checkRoll(t, 1, row([]int64{deep}, repeat(0, 20), []int64{7}), unit, nil, api.ErrOver)
	top := row([]int64{deep}, repeat(0, 19), []int64{rich})
	if rows, e := Roll(1, top, unit); e != api.OK || rows[20] != (Row{-edge, rich + edge, rich, 0}) {
		t.Error(e)
	}
}

// P11.1: Open and the Interest may be beyond 2^62, if what is paid brings the Close within.
func TestBoundOfCloseAlone(t *testing.T) {
	l := row(repeat(0, 18), []int64{rich, 0})
	outlay := int64(1<<43 + rich>>19)
	rows, e := Roll(outlay, l, unit)
	if e != api.OK {
		t.Fatal(e)
	}
	if w := rows[18]; w.Open+w.Interest <= edge || w.Close > edge {
		t.Error(w)
	}
	checkSlow(t, outlay, l, unit)
}

// P11.1 ErrOver: an interest that is too great for 64 bits, a sum that is though its interest isn't, and a Close that is though both aren't; on both sides of 0. In the last row the rate isn't asked, so nothing is too great there: it is only once another row comes behind.
func TestTooGreat(t *testing.T) {
	const fivefold = 161051 // 11 to the power of 5
	for _, x := range []struct {
		outlay int64
		l      []int64
		open   int64 // the last row's
		e      api.Errno
	}{
		{rich, repeat(0, 6), fivefold * rich, api.ErrOver},
		{rich, row(repeat(rich, 5), []int64{3}), 144946 * rich, api.ErrOver},
		{5600000000000, repeat(0, 6), fivefold * 5600000000000, api.OK},
		{rich / 2, repeat(0, 6), fivefold * rich / 2, api.OK},
		{1, row([]int64{rich}, repeat(0, 6)), -fivefold * (rich - 11), api.ErrOver},
		{1, row([]int64{5600000000011}, repeat(0, 6)), -fivefold * 5600000000000, api.OK},
		{1, row([]int64{rich/2 + 11}, repeat(0, 5), []int64{rich}), -fivefold * rich / 2, api.OK},
	} {
		if _, e := rate.Interest(x.open, api.MaxRate); e != x.e {
			t.Fatalf("interest of %d: %d", x.open, e)
		}
		rows, e := Roll(x.outlay, x.l, api.MaxRate)
		if e != api.OK {
			t.Fatalf("%d and %v: %d", x.outlay, x.l, e)
		}
		paid := x.l[len(x.l)-1]
		if end := rows[len(rows)-1]; end != (Row{x.open, paid - x.open, paid, 0}) {
			t.Errorf("%d and %v: %v; want %d", x.outlay, x.l, end, x.open)
		}
		checkSlow(t, x.outlay, x.l, api.MaxRate)
		for _, more := range []int{1, 2, room - len(x.l)} {
			checkRoll(t, x.outlay, row(x.l, repeat(0, more)), api.MaxRate, nil, api.ErrOver)
			checkRoll(t, x.outlay, row(x.l, repeat(rich, more)), api.MaxRate, nil, api.ErrOver)
		}
	}
}

// P11.1: at each rate and each length on the way to too great, and beyond, against the chapter's own words.
func TestOnTheWay(t *testing.T) {
	for _, r := range []int64{unit / 20, unit / 2, unit - 1, unit, unit + 1, 3 * unit, 9 * unit, api.MaxRate - 1, api.MaxRate} {
		for _, first := range []int64{0, 1, rich} {
			for _, outlay := range []int64{1, 3, rich - 1, rich} {
				for length := 1; length <= 66; length++ {
					checkSlow(t, outlay, row([]int64{first}, repeat(0, length-1)), r)
					checkSlow(t, outlay, row(repeat(0, length-1), []int64{first}), r)
				}
			}
		}
	}
}

// P11.1: all edges together, against the chapter's own words.
func TestEdges(t *testing.T) {
	amounts := []int64{-1, 0, 1, 2, 15, rich - 1, rich, rich + 1, least, most}
	for _, outlay := range append(amounts, 100) {
		for _, a := range amounts {
			for _, r := range append(rates(), api.MinRate-1, api.MaxRate+1, least, most) {
				checkSlow(t, outlay, []int64{a}, r)
				for _, b := range amounts {
					checkSlow(t, outlay, []int64{a, b}, r)
					checkSlow(t, outlay, []int64{a, 0, b}, r)
				}
			}
		}
	}
}

// P11.1, P11.2: any amounts, outlays and rates that may be, against the chapter's own words.
func TestSlow(t *testing.T) {
	r := rand.New(rand.NewSource(1))
	rolled := 0
	for i := range 4000 {
		up := 12
		if i%20 == 0 {
			up = room
		}
		outlay, l, at := max(someAmount(r), 1), someAmounts(r, up), someRate(r)
		checkSlow(t, outlay, l, at)
		if _, e := Roll(outlay, l, at); e == api.OK {
			rolled++
		}
	}
	if rolled < 2000 {
		t.Error("too few are rolled:", rolled)
	}
}

// P1: any numbers, against the chapter's own words.
func TestAnyNumbers(t *testing.T) {
	r := rand.New(rand.NewSource(2))
	for range 20000 {
		l, rows := make([]int64, r.Intn(5)), make([]Row, r.Intn(5))
		for i := range l {
			l[i] = someNumber(r)
		}
		for i := range rows {
			rows[i] = someRow(r)
		}
		checkSlow(t, someNumber(r), l, someNumber(r))
		checkSlow(t, 100, l, 0)
		checkSlowRows(t, rows, someNumber(r))
		checkSlowRows(t, rows, someRate(r))
	}
}

// P11.2 Sums: by hand; the document's example first. Neither Open nor Close counts.
func TestSumsNamed(t *testing.T) {
	for _, x := range []struct {
		l              []Row
		interest, paid int64
	}{
		{[]Row{{1000, 100, 500, 600}, {600, 5, 605, 0}}, 105, 1105},
		{nil, 0, 0},
		{[]Row{}, 0, 0},
		{make([]Row, 0, 5), 0, 0},
		{[]Row{{1, 2, 3, 4}}[:0], 0, 0},
		{[]Row{{}}, 0, 0},
		{[]Row{{1, 2, 3, 4}}, 2, 3},
		{[]Row{{1, -2, -3, 4}}, -2, -3},
		{[]Row{{most, 2, 3, least}, {most, 5, 7, least}, {most, -1, 0, least}}, 6, 10},
		{[]Row{{0, most, least, 0}}, most, least},
		{[]Row{{0, least, most, 0}}, least, most},
		{[]Row{{0, most - 1, 0, 0}, {0, 1, 0, 0}}, most, 0},
		{[]Row{{0, 0, least + 1, 0}, {0, 0, -1, 0}}, 0, least},
		{[]Row{{0, most, 0, 0}, {0, 1, 0, 0}, {0, -1, 0, 0}}, most, 0}, // too great on the way alone
		{[]Row{{0, 0, least, 0}, {0, 0, -1, 0}, {0, 0, 1, 0}}, 0, least},
		{[]Row{{0, most, most, 0}, {0, most, most, 0}, {0, least, least, 0}, {0, least, least, 0}}, -2, -2},
	} {
		checkSums(t, x.l, x.interest, x.paid, api.OK)
	}
}

// P11.2 Sums: more rows than a table may have are summed as well.
func TestSumsLong(t *testing.T) {
	for _, length := range []int{room, room + 1, 1 << 16} {
		l := slices.Repeat([]Row{{1, 2, 3, 4}}, length)
		checkSums(t, l, int64(2*length), int64(3*length), api.OK)
	}
}

// P11.2 Sums: where Interests, Paids or both sum too great, it is ErrOver, and 0, 0, though the other sum isn't.
func TestSumsTooGreat(t *testing.T) {
	beyond := [][2]int64{{most, 1}, {1, most}, {least, -1}, {-1, least}, {most, most}, {least, least}, {edge, edge}}
	for _, a := range beyond {
		checkSums(t, []Row{{Interest: a[0]}, {Interest: a[1]}}, 0, 0, api.ErrOver)
		checkSums(t, []Row{{Interest: a[0], Paid: 5}, {Interest: a[1], Paid: 7}}, 0, 0, api.ErrOver)
		checkSums(t, []Row{{Paid: a[0]}, {Paid: a[1]}}, 0, 0, api.ErrOver)
		checkSums(t, []Row{{Paid: a[0], Interest: 5}, {Paid: a[1], Interest: 7}}, 0, 0, api.ErrOver)
		for _, b := range beyond {
			checkSums(t, []Row{{Interest: a[0], Paid: b[0]}, {Interest: a[1], Paid: b[1]}}, 0, 0, api.ErrOver)
		}
		checkSums(t, []Row{{Open: a[0], Close: a[0]}, {Open: a[1], Close: a[1]}}, 0, 0, api.OK)
	}
}

// P11.2 Plug: by hand; the document's example first. Of the last row alone Open and Interest count.
func TestPlugNamed(t *testing.T) {
	for _, x := range []struct {
		l       []Row
		r, want int64
	}{
		{[]Row{{1000, 100, 500, 600}, {600, 5, 605, 0}}, tenth, -55},
		{[]Row{{600, 5, 605, 0}}, tenth, -55},
		{[]Row{{most, least, most, least}, {600, 5, 605, 0}}, tenth, -55},
		{[]Row{{least, most, least, most}, {most, most, most, most}, {600, 5, least, most}}, tenth, -55},
		{[]Row{{1000, 100, 1100, 0}}, tenth, 0},
		{[]Row{{1000, 107, 0, 0}}, tenth, 7},
		{[]Row{{1000, 107, 0, 0}}, 0, 107},
		{[]Row{{1000, 0, 0, 0}}, -tenth, 100},
		{[]Row{{1000, 0, 0, 0}}, api.MinRate, 990},
		{[]Row{{1000, 0, 0, 0}}, api.MaxRate, -10000},
		{[]Row{{-1000, 0, 0, 0}}, tenth, 100},
		{[]Row{{-1000, 1000, 0, 0}}, tenth, 1100},
		{[]Row{{-1000, -7, 0, 0}}, api.MaxRate, 9993},
		{[]Row{{15, 0, 0, 0}}, tenth, -2}, // halves go to the even one
		{[]Row{{25, 0, 0, 0}}, tenth, -2},
		{[]Row{{-5, 0, 0, 0}}, tenth, 0},
		{[]Row{{-15, 0, 0, 0}}, tenth, 2},
		{[]Row{{}}, tenth, 0},
	} {
		checkPlug(t, x.l, x.r, x.want, api.OK)
	}
}

// P11.2 Plug: no rows are ErrNone, nil or empty, at a rate that may not be too.
func TestPlugNone(t *testing.T) {
	for _, l := range [][]Row{nil, {}, make([]Row, 0, 5), []Row{{600, 5, 605, 0}}[:0]} {
		for _, r := range anyRates() {
			checkPlug(t, l, r, 0, api.ErrNone)
		}
	}
}

// P11.2 Plug: a rate that may not be is ErrArg, ahead of an interest or a difference that is too great.
func TestPlugWrongRate(t *testing.T) {
	for _, w := range []Row{{}, {600, 5, 605, 0}, {most, 0, 0, 0}, {least, most, 0, 0}, {10, least, 0, 0}} {
		for _, wrong := range wrongRates() {
			checkPlug(t, []Row{w}, wrong, 0, api.ErrArg)
			checkPlug(t, []Row{{}, w}, wrong, 0, api.ErrArg)
		}
	}
	for _, right := range rates() {
		if _, e := Plug([]Row{{600, 5, 605, 0}}, right); e != api.OK {
			t.Errorf("%d: %d", right, e)
		}
	}
}

// P11.2 Plug: an interest that is just not too great, and one that is, on both sides of 0; and likewise a difference.
func TestPlugTooGreat(t *testing.T) {
	for _, x := range []struct {
		open, interest, r, want int64
		e                       api.Errno
	}{
		{most / 10, 0, api.MaxRate, -(most - 7), api.OK},
		{most/10 + 1, 0, api.MaxRate, 0, api.ErrOver},
		{least / 10, 0, api.MaxRate, most - 7, api.OK},
		{least/10 - 1, 0, api.MaxRate, 0, api.ErrOver},
		{most, 0, api.MaxRate, 0, api.ErrOver},
		{least, 0, api.MaxRate, 0, api.ErrOver},
		{most, 0, unit, -most, api.OK},
		{most, 0, unit + 1, 0, api.ErrOver},
		{most, most, unit, 0, api.OK},
		{most, -1, unit, least, api.OK},
		{most, -2, unit, 0, api.ErrOver},
		{least, -1, unit, most, api.OK},
		{least, 0, unit, 0, api.ErrOver},
		{least, least, unit, 0, api.OK},
		{0, most, tenth, most, api.OK},
		{0, least, tenth, least, api.OK},
		{10, most, tenth, most - 1, api.OK},
		{-10, most - 1, tenth, most, api.OK},
		{-10, most, tenth, 0, api.ErrOver},
		{-10, least, tenth, least + 1, api.OK},
		{10, least + 1, tenth, least, api.OK},
		{10, least, tenth, 0, api.ErrOver},
		{least, most, 0, most, api.OK},
		{most, least, 0, least, api.OK},
		{most, least, api.MinRate, least + 9131138316486228049, api.OK},
		{least, least, api.MinRate, 0, api.ErrOver},
		{most, most, api.MinRate, 0, api.ErrOver},
	} {
		l := []Row{{1, 2, 3, 4}, {x.open, x.interest, 5, 6}}
		checkPlug(t, l, x.r, x.want, x.e)
		checkPlug(t, l[1:], x.r, x.want, x.e)
		checkSlowRows(t, l, x.r)
	}
}

// P11.2: the least and the greatest numbers in each part of a row, at each place.
func TestAnyParts(t *testing.T) {
	for _, n := range []int64{least, least + 1, most - 1, most} {
		for at := range 3 {
			for part := range 4 {
				l := []Row{{1000, 100, 500, 600}, {600, 60, 100, 560}, {560, 40, 600, 0}}
				*[]*int64{&l[at].Open, &l[at].Interest, &l[at].Paid, &l[at].Close}[part] = n
				for _, r := range anyRates() {
					checkSlowRows(t, l, r)
				}
			}
		}
		for _, r := range anyRates() {
			checkSlowRows(t, []Row{{n, n, n, n}}, r)
			checkSlowRows(t, []Row{{n, n, n, n}, {-n, -n, -n, -n}}, r)
		}
	}
}

// P11.3: a table ends with 0; each row opens with what the last one closed with; all interest is what is paid less the outlay.
func TestTies(t *testing.T) {
	r := rand.New(rand.NewSource(3))
	for range 3000 {
		outlay, l, at := max(someAmount(r), 1), someAmounts(r, 40), someRate(r)
		rows, e := Roll(outlay, l, at)
		if e != api.OK {
			continue
		}
		open, paid := outlay, int64(0)
		for i, w := range rows {
			if w.Open != open || w.Paid != l[i] || w.Close != w.Open+w.Interest-w.Paid {
				t.Fatalf("%d and %v at %d: %d: %v", outlay, told(l), at, i, w)
			}
			open = w.Close
			paid += l[i]
		}
		if open != 0 {
			t.Fatalf("%d and %v at %d ends with %d", outlay, told(l), at, open)
		}
		checkSums(t, rows, paid-outlay, paid, api.OK)
	}
}

// P11.3: at the rate that layer 10 solves the plug is little beside what is paid; loans as loans are.
func TestSolved(t *testing.T) {
	for _, x := range []struct {
		outlay int64
		l      []int64
		want   int64
	}{
		{1000, []int64{500, 605}, 0},
		{100, []int64{105}, 0},
		{100000, []int64{10000, 10000, 110000}, 0},
		{1000000, repeat(8792, 180), 9},
		{10000000, repeat(299708, 36), 2},
		{rich, repeat(rich/300, room), 1878},
	} {
		r, e := eir.Solve(x.outlay, x.l)
		if e != api.OK {
			t.Fatalf("%d and %v: %d", x.outlay, told(x.l), e)
		}
		rows, e := Roll(x.outlay, x.l, r)
		if e != api.OK {
			t.Fatalf("%d and %v at %d: %d", x.outlay, told(x.l), r, e)
		}
		checkPlug(t, rows, r, x.want, api.OK)
	}
}

// howFar is how far the last interest may lie from the rate's: what the rows were rounded by and what the worths in thousandths were, and a step of the rate, all grown to the end.
func howFar(outlay int64, l []int64, r int64) float64 {
	by := 1 + float64(r)/unit
	rounded, worths, grown := 0.0, 0.0, 1.0
	for range l {
		rounded += 0.5 * grown
		worths += 0.0005 / grown
		grown *= by
	}
	step := float64(outlay) * float64(len(l)) / by / unit
	return 1 + 1.01*(rounded+(worths+step)*grown)
}

// P11.3: no more than what was rounded on the way; any loans that can be solved.
func TestSolvedAny(t *testing.T) {
	r := rand.New(rand.NewSource(4))
	solved := 0
	for range 1500 {
		l := make([]int64, 1+r.Intn(60))
		width, sum := r.Intn(40), int64(0)
		for i := range l {
			l[i] = r.Int63n(rich>>width + 1)
			sum += l[i]
		}
		outlay := min(max(sum/2+r.Int63n(sum+1), 1), rich)
		at, e := eir.Solve(outlay, l)
		if e != api.OK {
			continue
		}
		rows, e := Roll(outlay, l, at)
		if e != api.OK {
			continue
		}
		n, e := Plug(rows, at)
		if bound := howFar(outlay, l, at); math.Abs(float64(n)) > bound || e != api.OK {
			t.Fatalf("%d and %v at %d: %d, %d; at most %v", outlay, told(l), at, n, e, bound)
		}
		solved++
	}
	if solved < 1000 {
		t.Error("too few are solved:", solved)
	}
}

// Rule 4: amounts and rows are as they were, and what lies beside them, whatever is answered.
func TestNotChanged(t *testing.T) {
	for _, outlay := range []int64{-1, 1, 1000, rich} {
		for _, r := range []int64{tenth, api.MaxRate, most} {
			all := []int64{least, 500, 605, 0, 7, 0, 0, 0, most, -3}
			was := slices.Clone(all)
			rows, _ := Roll(outlay, all[1:8], r)
			if !slices.Equal(all, was) {
				t.Fatal(all)
			}
			beside := slices.Concat([]Row{{least, least, least, least}}, rows, []Row{{most, most, most, most}})
			wasBeside := slices.Clone(beside)
			Sums(beside[1 : len(beside)-1])
			Plug(beside[1:len(beside)-1], r)
			Sums(beside)
			Plug(beside, r)
			if !slices.Equal(beside, wasBeside) {
				t.Fatal(beside)
			}
		}
	}
}

// Rule 4: what is answered is nobody else's: amounts may be changed behind the call, and so may rows, their spare room too.
func TestNotShared(t *testing.T) {
	l := []int64{500, 605}
	want := []Row{{1000, 100, 500, 600}, {600, 5, 605, 0}}
	rows, _ := Roll(1000, l, tenth)
	other, _ := Roll(1000, l, tenth)
	clear(l)
	if !slices.Equal(rows, want) || !slices.Equal(other, want) {
		t.Error(rows, other)
	}
	clear(rows[:cap(rows)])
	if !slices.Equal(other, want) {
		t.Error(other)
	}
	checkRoll(t, 1000, []int64{500, 605}, tenth, want, api.OK)
}

// Rule 5: calls at the same time don't touch one another, though they share amounts and rows.
func TestAtOnce(t *testing.T) {
	l := row(repeat(17, 30), []int64{1000})
	shared, _ := Roll(900, l, tenth)
	var joined sync.WaitGroup
	for i := range int64(8) {
		want, wantE := slowRoll(800+i, l, tenth)
		joined.Go(func() {
			for range 50 {
				rows, e := Roll(800+i, l, tenth)
				if !slices.Equal(rows, want) || e != wantE {
					t.Errorf("%d: %v, %d", i, told(rows), e)
				}
				interest, paid, _ := Sums(shared)
				if plug, e := Plug(shared, tenth); interest != 610 || paid != 1510 || e != api.OK {
					t.Errorf("%d: %d, %d, %d, %d", i, interest, paid, plug, e)
				}
			}
		})
	}
	joined.Wait()
}

// The generic function itself, of other types: each is made of the one ahead, in order, and only the last item is told to be.
func TestChain(t *testing.T) {
	words, e := chain("", []rune{'a', 'b', 'c'}, func(ahead string, item rune, last bool) (string, api.Errno) {
		if last {
			return ahead + string(item) + ".", api.OK
		}
		return ahead + string(item), api.OK
	})
	if !slices.Equal(words, []string{"a", "ab", "abc."}) || e != api.OK {
		t.Error(words, e)
	}
	if none, e := chain(5, []int(nil), func(int, int, bool) (int, api.Errno) { return 0, api.ErrForm }); len(none) != 0 || e != api.OK {
		t.Error(none, e)
	}
}

// The generic function itself: the first error ends it, and nothing is answered beside it.
func TestChainRefused(t *testing.T) {
	asked := 0
	made, e := chain(0, []api.Errno{api.OK, api.OK, api.ErrSum, api.ErrOver}, func(ahead int, item api.Errno, _ bool) (int, api.Errno) {
		asked++
		return ahead + 1, item
	})
	if made != nil || e != api.ErrSum || asked != 3 {
		t.Error(made, e, asked)
	}
}
