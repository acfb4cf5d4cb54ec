package eir

import (
	"math"
	"math/big"
	"math/rand"
	"runtime"
	"slices"
	"sync"
	"testing"
	"time"

	"lombard/api"
	"lombard/value"
)

const (
	unit  = api.Unit
	tenth = api.Unit / 10
	rich  = api.MaxMoney
	room  = api.MaxPeriods
	least = math.MinInt64
	most  = math.MaxInt64
)

// wrongAmounts are beyond 0 to MaxMoney: one beyond, and far; a thousand times some of them would go round to what is within.
func wrongAmounts() []int64 {
	return []int64{-1, -2, rich + 1, rich + 2, -rich, -rich - 1, 2 * rich, 1000 * rich, 1 << 61, 1<<61 + 1, -1 << 61, 1 << 62, -1 << 62, least, least + 1, most - 1, most}
}

// wrongOutlays are beyond 1 to MaxMoney.
func wrongOutlays() []int64 {
	return append([]int64{0}, wrongAmounts()...)
}

// wrongRates are beyond MinRate to MaxRate; -Unit among them, at which there is nothing to divide by.
func wrongRates() []int64 {
	return []int64{api.MinRate - 1, api.MaxRate + 1, api.MinRate - 2, api.MaxRate + 2, -unit, -unit - 1, -unit + 1, -2 * unit, 1 << 62, -1 << 62, least, least + 1, most - 1, most, most - unit, most - unit + 1}
}

// rates may be: both bounds, 0, and those beside them, and some ordinary ones.
func rates() []int64 {
	return []int64{api.MinRate, api.MinRate + 1, -unit / 2, -tenth, -1, 0, 1, unit / 200, tenth / 2, tenth, unit / 4, unit, api.MaxRate - 1, api.MaxRate}
}

func anyRates() []int64 {
	return append(rates(), wrongRates()...)
}

func repeat(n int64, times int) []int64 {
	return slices.Repeat([]int64{n}, times)
}

// row is lists one behind the other, in new memory.
func row(lists ...[]int64) []int64 {
	return slices.Concat(lists...)
}

// late is one amount, in so many periods.
func late(n int64, periods int) []int64 {
	return row(repeat(0, periods-1), []int64{n})
}

// slowRound is a quotient to the nearer one, to the even one of two.
func slowRound(n *big.Int, by int64) *big.Int {
	d := big.NewInt(by)
	q, rest := new(big.Int).DivMod(n, d, new(big.Int))
	half := rest.Lsh(rest, 1).Cmp(d)
	if half > 0 || half == 0 && q.Bit(0) == 1 {
		q.Add(q, big.NewInt(1))
	}
	return q
}

func slowMay(outlay int64, l []int64) bool {
	if len(l) < 1 || len(l) > 600 {
		return false
	}
	return slices.Min(l) >= 0 && slices.Max(l) >= 1 && slices.Max(l) <= 10000000000000 && outlay >= 1 && outlay <= 10000000000000
}

// slowCovers is the chapter's covering, with layer 9's Fine, word by word, in numbers of any size.
func slowCovers(outlay int64, l []int64, r int64) bool {
	bound := new(big.Int).Lsh(big.NewInt(1), 62)
	worth := new(big.Int)
	for _, n := range slices.Backward(l) {
		worth.Add(worth, new(big.Int).Mul(big.NewInt(n), big.NewInt(1000)))
		worth = slowRound(worth.Mul(worth, big.NewInt(unit)), unit+r)
		if worth.Cmp(bound) > 0 {
			return true
		}
	}
	return worth.Cmp(new(big.Int).Mul(big.NewInt(outlay), big.NewInt(1000))) >= 0
}

// slowSolve is P10.1 in one goroutine, by halves.
func slowSolve(outlay int64, l []int64) (int64, api.Errno) {
	if !slowMay(outlay, l) {
		return 0, api.ErrArg
	}
	low, high := int64(-990000000000), int64(10000000000000)
	if !slowCovers(outlay, l, low) || slowCovers(outlay, l, high) {
		return 0, api.ErrBracket
	}
	for high-low > 1 {
		if m := low + (high-low)/2; slowCovers(outlay, l, m) {
			low = m
		} else {
			high = m
		}
	}
	return low, api.OK
}

func slowFits(outlay int64, l []int64, r int64) bool {
	if !slowMay(outlay, l) || r < -990000000000 || r >= 10000000000000 {
		return false
	}
	return slowCovers(outlay, l, r) && !slowCovers(outlay, l, r+1)
}

// slowYear is P10.2 with layer 3's Power word by word, in numbers of any size.
func slowYear(r int64, periods int) (int64, api.Errno) {
	if periods < 1 || periods > 600 || r < -990000000000 || r > 10000000000000 {
		return 0, api.ErrArg
	}
	x := big.NewInt(unit)
	for range periods {
		x = slowRound(x.Mul(x, big.NewInt(unit+r)), unit)
		if !x.IsInt64() {
			return 0, api.ErrOver
		}
	}
	return x.Int64() - unit, api.OK
}

// told is a list in short, for a test that fails.
func told(l []int64) []int64 {
	return l[:min(len(l), 12)]
}

func checkFits(t *testing.T, outlay int64, l []int64, r int64, want bool) {
	t.Helper()
	if Fits(outlay, l, r) != want {
		t.Fatalf("Fits of %d and %d: %v at %d: not %v", outlay, len(l), told(l), r, want)
	}
}

// checkSolve holds Solve against an answer, and Fits: it is that rate alone that fits, and none beside an error.
func checkSolve(t *testing.T, outlay int64, l []int64, want int64, wantE api.Errno) {
	t.Helper()
	if r, e := Solve(outlay, l); r != want || e != wantE {
		t.Fatalf("Solve of %d and %d: %v: %d, %d; want %d, %d", outlay, len(l), told(l), r, e, want, wantE)
	}
	for _, r := range anyRates() {
		checkFits(t, outlay, l, r, wantE == api.OK && r == want)
	}
	for _, beside := range []int64{-1000, -2, -1, 0, 1, 2, 1000} {
		checkFits(t, outlay, l, want+beside, wantE == api.OK && beside == 0)
	}
}

func checkSlow(t *testing.T, outlay int64, l []int64) {
	t.Helper()
	want, wantE := slowSolve(outlay, l)
	checkSolve(t, outlay, l, want, wantE)
}

func checkSlowYear(t *testing.T, r int64, periods int) {
	t.Helper()
	want, wantE := slowYear(r, periods)
	checkYear(t, r, periods, want, wantE)
}

func checkYear(t *testing.T, r int64, periods int, want int64, wantE api.Errno) {
	t.Helper()
	if n, e := Year(r, periods); n != want || e != wantE {
		t.Fatalf("Year of %d, %d: %d, %d; want %d, %d", r, periods, n, e, want, wantE)
	}
}

// someAmount may be solved; of any width, so that small ones come too.
func someAmount(r *rand.Rand) int64 {
	return r.Int63n(rich+1) >> r.Intn(44)
}

// someCase is mostly a loan as loans are: the outlay isn't far from what is paid. Else it is anything that may be solved, or nearly.
func someCase(r *rand.Rand, up int) (int64, []int64) {
	l := make([]int64, 1+r.Intn(up))
	width := r.Intn(40)
	sum := int64(0)
	for i := range l {
		if l[i] = someAmount(r); width > 0 {
			l[i] = r.Int63n(rich>>width + 1)
		}
		sum += l[i]
	}
	if r.Intn(3) == 0 {
		return max(someAmount(r), 1), l
	}
	return min(max(sum/4*3+r.Int63n(sum/2+1), 1), rich), l
}

// place is where the rate lies, beyond the bounds too: those that nothing covers are below all, those that are covered at MaxRate above.
func place(t *testing.T, outlay int64, l []int64) int64 {
	t.Helper()
	r, e := Solve(outlay, l)
	switch {
	case e == api.OK:
		return r
	case e != api.ErrBracket:
		t.Fatalf("Solve of %d and %v: %d", outlay, told(l), e)
	case slowCovers(outlay, l, api.MaxRate):
		return api.MaxRate
	}
	return api.MinRate - 1
}

// P10.1 Solve: the document's examples, its own tests' and some as loans are. The worth may be half a thousandth below the outlay, rounded, so the rate lies a little above the plain one.
func TestNamed(t *testing.T) {
	for _, x := range []struct {
		outlay int64
		l      []int64
		want   int64
	}{
		{100, []int64{105}, 50005250026},  // 105000 by 99999.5
		{1, []int64{1}, 500250125},        // 1000 by 999.5
		{1, []int64{10}, 9005002501250},   // 10000 by 999.5
		{2, []int64{1}, -499874968743},    // 1000 by 1999.5
		{50, []int64{500}, 9000100001000}, // 500000 by 49999.5
		{100, []int64{1}, -989999950000},  // 1000 by 99999.5
		{1000, []int64{500, 605}, 67007168348},
		{100, []int64{1, 1, 1}, -765505920976},
		{1, []int64{0, 0, 1}, 500250125}, // what a period rounds to 1000 again, all do
		{1, late(1, room), 500250125},
		{1, repeat(1, room), unit}, // 999.5 goes to 1000, the even one, and stays there
		{rich, []int64{rich}, 0},
		{rich, []int64{0, rich}, 0},
		{rich, late(rich, room), 0},
		{rich, []int64{rich - 1}, -1},
		{rich - 1, []int64{rich}, 0},
		{rich, repeat(rich, room), unit},
		{rich, repeat(rich/room, room), -1},
		{rich, repeat(rich/room+1, room), 0},
		{1, late(rich, room), 51156028695},
		{rich, late(1, room), -48665105768},
		{rich, repeat(1, room), -43688442118},
	} {
		checkSolve(t, x.outlay, x.l, x.want, api.OK)
		checkSlow(t, x.outlay, x.l)
	}
	checkSolve(t, 1000, []int64{1}, 0, api.ErrBracket)
	checkSolve(t, 1, []int64{1000}, 0, api.ErrBracket)
}

// P10.1: the rate is the greatest that still covers, by layer 9's Fine, of which a thousand are 1.
func TestGreatest(t *testing.T) {
	for _, x := range []struct {
		outlay int64
		l      []int64
	}{
		{100, []int64{105}}, {1000, []int64{500, 605}}, {100000, []int64{10000, 10000, 110000}}, {rich, []int64{rich, tenth}}, {7, []int64{0, 3, 0, 9}}, {rich / 3, repeat(rich/500, room)},
	} {
		r, e := Solve(x.outlay, x.l)
		still, stillE := value.Fine(x.l, r)
		more, moreE := value.Fine(x.l, r+1)
		if e != api.OK || stillE != api.OK || moreE != api.OK || still < 1000*x.outlay || more >= 1000*x.outlay {
			t.Errorf("%d and %v: %d, %d: %d and %d", x.outlay, told(x.l), r, e, still, more)
		}
	}
}

// P10.1 ErrBracket at MinRate: amounts that just cover the outlay there and nowhere else, and those that just don't.
func TestLeast(t *testing.T) {
	for _, x := range []struct {
		outlay int64
		l      []int64
		want   int64
		e      api.Errno
	}{
		{100000000, []int64{1000000}, api.MinRate, api.OK},
		{100000001, []int64{1000000}, 0, api.ErrBracket},
		{99999999, []int64{1000000}, api.MinRate + 100, api.OK},
		{rich, []int64{rich / 100}, api.MinRate, api.OK},
		{rich, []int64{rich/100 - 1}, 0, api.ErrBracket},
		{rich, []int64{rich/100 + 1}, api.MinRate, api.OK},
		{rich, []int64{0, rich / 10000}, api.MinRate, api.OK},
		{rich, []int64{0, rich/10000 - 1}, 0, api.ErrBracket},
		{rich, []int64{100, rich/10000 - 1}, api.MinRate, api.OK},
		{rich, []int64{99, rich/10000 - 1}, 0, api.ErrBracket},
		{101, []int64{1}, 0, api.ErrBracket},
		{rich, []int64{1}, 0, api.ErrBracket},
		{10001, []int64{0, 1}, 0, api.ErrBracket},
		{rich, []int64{1, 1, 1}, 0, api.ErrBracket},
	} {
		checkSolve(t, x.outlay, x.l, x.want, x.e)
		checkSlow(t, x.outlay, x.l)
	}
}

// P10.1 ErrBracket at MaxRate: amounts that just cover the outlay there, and those that just don't, by a thousandth or a few.
func TestMost(t *testing.T) {
	for _, x := range []struct {
		outlay int64
		l      []int64
		want   int64
		e      api.Errno
	}{
		{1, []int64{11}, 0, api.ErrBracket},
		{1, []int64{12}, 0, api.ErrBracket},
		{1, []int64{10, 11}, 0, api.ErrBracket},
		{1, []int64{10, 10}, 9921460730365, api.OK},
		{1, []int64{10, 10, 9, 1}, 9990495247623, api.OK}, // 999 at MaxRate
		{1, []int64{10, 10, 10, 4}, 0, api.ErrBracket},
		{rich / 11, []int64{rich}, 0, api.ErrBracket},
		{rich/11 + 1, []int64{rich}, api.MaxRate - 2, api.OK},
		{rich/11 + 2, []int64{rich}, api.MaxRate - 14, api.OK},
		{900000000000, []int64{9900000000000}, 0, api.ErrBracket},
		{900000000000, []int64{9899999999999, 11}, 0, api.ErrBracket},
		{900000000000, []int64{9899999999999, 10}, api.MaxRate - 1, api.OK},
		{900000000000, []int64{9899999999999, 2}, api.MaxRate - 1, api.OK},
		{900000000000, []int64{9899999999999, 1}, api.MaxRate - 2, api.OK},
		{1, []int64{rich}, 0, api.ErrBracket},
		{1, repeat(rich, room), 0, api.ErrBracket},
		{1, repeat(11, room), 0, api.ErrBracket},
	} {
		checkSolve(t, x.outlay, x.l, x.want, x.e)
		checkSlow(t, x.outlay, x.l)
	}
}

// P10.1: where the worth is too great, it covers: at MinRate, and up to 0 too.
func TestTooGreat(t *testing.T) {
	for _, x := range []struct {
		outlay int64
		l      []int64
		over   int64 // a rate at which it is
	}{
		{rich, repeat(rich, room), 0},
		{rich, repeat(rich, room), api.MinRate},
		{rich, late(1, room), api.MinRate},
		{1, late(1, room), -tenth},
		{rich, []int64{0, 0, 0, rich}, api.MinRate},
		{rich, []int64{0, 0, rich / 100}, api.MinRate},
		{5, late(3, 40), -unit * 3 / 4},
	} {
		if _, e := value.Fine(x.l, x.over); e != api.ErrOver {
			t.Fatalf("Fine of %v at %d: %d", told(x.l), x.over, e)
		}
		r, e := Solve(x.outlay, x.l)
		if e != api.OK || r <= x.over {
			t.Errorf("Solve of %d and %v: %d, %d", x.outlay, told(x.l), r, e)
		}
		checkFits(t, x.outlay, x.l, x.over, false)
		checkSlow(t, x.outlay, x.l)
	}
}

// P10.1: from a rate at which it is too great to the next, at which it isn't, it covers still.
func TestBesideTooGreat(t *testing.T) {
	for _, l := range [][]int64{repeat(rich, room), late(1, room), {0, 0, 0, rich}, {0, 0, rich / 100}, late(3, 40)} {
		over := last(api.MinRate-1, api.MaxRate+1, func(r int64) bool {
			_, e := value.Fine(l, r)
			return e == api.ErrOver
		})
		if _, e := value.Fine(l, over+1); over < api.MinRate || e != api.OK {
			t.Fatal(over, e)
		}
		for _, outlay := range []int64{1, rich} {
			checkFits(t, outlay, l, over, false)
			checkFits(t, outlay, l, over+1, false)
			checkFits(t, outlay, l, over-1, false)
		}
	}
}

// P10.1 ErrArg, rule 3: no amounts, nil and empty, whatever lies behind them.
func TestNone(t *testing.T) {
	for _, l := range [][]int64{nil, {}, make([]int64, 0, 5), []int64{105, 5}[:0]} {
		for _, outlay := range append(wrongOutlays(), 1, 100, rich) {
			checkSolve(t, outlay, l, 0, api.ErrArg)
		}
	}
}

// P10.1 ErrArg: as many amounts as there may be, and one more.
func TestCount(t *testing.T) {
	for _, n := range []int64{1, 7, rich - 1, rich} {
		for _, outlay := range []int64{1, 1000, rich} {
			checkSlow(t, outlay, repeat(n, 1))
			checkSlow(t, outlay, repeat(n, room-1))
			checkSlow(t, outlay, repeat(n, room))
			checkSolve(t, outlay, repeat(n, room+1), 0, api.ErrArg)
			checkSolve(t, outlay, repeat(n, room+2), 0, api.ErrArg)
		}
	}
	if _, e := Solve(100, late(105, room)); e != api.OK {
		t.Error(e)
	}
	checkSolve(t, 100, late(105, room+1), 0, api.ErrArg)
	checkSolve(t, 100, row([]int64{105}, repeat(0, room)), 0, api.ErrArg)
	checkSolve(t, 100, repeat(1, 1<<20), 0, api.ErrArg)
}

// P10.1 ErrArg: amounts of 0 alone are refused; one of 1 is enough, wherever it is.
func TestZeros(t *testing.T) {
	for _, length := range []int{1, 2, 3, 10, room} {
		for _, outlay := range []int64{1, 100, rich} {
			checkSolve(t, outlay, repeat(0, length), 0, api.ErrArg)
		}
		for _, at := range []int{0, length / 2, length - 1} {
			l := repeat(0, length)
			l[at] = 1
			checkSolve(t, 1, l, 500250125, api.OK)
		}
	}
}

// P10.1 ErrArg: an amount that may not be, at each place of short lists and of the longest one; and those at the bounds, that may.
func TestWrongAmounts(t *testing.T) {
	for _, wrong := range wrongAmounts() {
		for _, length := range []int{1, 2, 3, 7, room} {
			for at := range length {
				l := repeat(5, length)
				l[at] = wrong
				if r, e := Solve(10, l); r != 0 || e != api.ErrArg {
					t.Fatalf("%d at %d of %d: %d, %d", wrong, at, length, r, e)
				}
				checkFits(t, 10, l, 0, false)
			}
		}
		checkSolve(t, 10, []int64{wrong}, 0, api.ErrArg)
		checkSolve(t, 10, []int64{wrong, 5}, 0, api.ErrArg)
		checkSolve(t, 10, []int64{5, wrong}, 0, api.ErrArg)
		checkSolve(t, 10, repeat(wrong, room), 0, api.ErrArg)
	}
	for _, right := range []int64{0, 1, rich - 1, rich} {
		for at := range 4 {
			l := repeat(5, 4)
			l[at] = right
			if _, e := Solve(rich, l); right > 1 && e != api.OK || e == api.ErrArg {
				t.Errorf("%d at %d: %d", right, at, e)
			}
			checkSlow(t, rich, l)
			checkSlow(t, 10, l)
		}
	}
}

// P10.1 ErrArg: an outlay that may not be; and those at the bounds, that may.
func TestOutlays(t *testing.T) {
	for _, wrong := range wrongOutlays() {
		for _, l := range [][]int64{{105}, {1}, {rich}, {0, 0, 1}, repeat(rich, room), repeat(1, room)} {
			checkSolve(t, wrong, l, 0, api.ErrArg)
		}
	}
	for _, right := range []int64{1, 2, rich - 1, rich} {
		r, e := Solve(right, []int64{right, right})
		if e != api.OK || r < unit/2 || r > unit {
			t.Errorf("%d: %d, %d", right, r, e)
		}
		checkSlow(t, right, []int64{right, right})
	}
}

// P10.1: ErrArg comes ahead of ErrBracket, and wrong amounts and a wrong outlay together are ErrArg too.
func TestArgFirst(t *testing.T) {
	for _, wrong := range wrongOutlays() {
		for _, amount := range wrongAmounts() {
			checkSolve(t, wrong, []int64{amount}, 0, api.ErrArg)
			checkSolve(t, wrong, []int64{1, amount}, 0, api.ErrArg)
		}
		checkSolve(t, wrong, repeat(0, 3), 0, api.ErrArg)
		checkSolve(t, wrong, repeat(1, room+1), 0, api.ErrArg)
	}
	// 1000 and 1, and 1 and 1000, are ErrBracket
	checkSolve(t, 1000, []int64{1, -1}, 0, api.ErrArg)
	checkSolve(t, 1, []int64{1000, -1}, 0, api.ErrArg)
	checkSolve(t, 1, []int64{1000, rich + 1}, 0, api.ErrArg)
	checkSolve(t, rich+1, []int64{1}, 0, api.ErrArg)
	checkSolve(t, 0, []int64{1000}, 0, api.ErrArg)
	checkSolve(t, rich, repeat(0, room), 0, api.ErrArg)
	checkSolve(t, 1, repeat(rich, room+1), 0, api.ErrArg)
	checkSolve(t, rich, late(1, room+1), 0, api.ErrArg)
}

// P10.1 Fits: r, and r and 1, must both be within the bounds: the least rate that fits is MinRate, the greatest MaxRate less 1.
func TestFitsBounds(t *testing.T) {
	atLeast, atMost := []int64{rich / 100}, []int64{9899999999999, 10}
	for _, x := range []struct {
		outlay int64
		l      []int64
		fits   int64
	}{{rich, atLeast, api.MinRate}, {900000000000, atMost, api.MaxRate - 1}} {
		for _, r := range append(anyRates(), api.MinRate+2, api.MaxRate-2) {
			checkFits(t, x.outlay, x.l, r, r == x.fits)
		}
	}
	// what covers at MaxRate would not a little beyond it, and what doesn't at MinRate would a little below
	checkFits(t, 900000000000, []int64{9900000000000}, api.MaxRate, false)
	checkFits(t, 900000000000, []int64{9900000000000}, api.MaxRate-1, false)
	checkFits(t, rich, []int64{rich/100 - 1}, api.MinRate, false)
	checkFits(t, rich, []int64{rich/100 - 1}, api.MinRate-1, false)
}

// P10.1: all edges together, against the chapter's own words.
func TestEdges(t *testing.T) {
	amounts := []int64{-1, 0, 1, 2, 11, rich / 100, rich - 1, rich, rich + 1}
	for _, outlay := range []int64{-1, 0, 1, 2, 100, rich / 11, rich - 1, rich, rich + 1} {
		for _, a := range amounts {
			checkSlow(t, outlay, []int64{a})
			for _, b := range amounts {
				checkSlow(t, outlay, []int64{a, b})
				checkSlow(t, outlay, []int64{a, 0, b})
			}
		}
	}
}

// P10.1: any amounts and outlays, against the chapter's own words.
func TestSlow(t *testing.T) {
	r := rand.New(rand.NewSource(1))
	solved := 0
	for range 1500 {
		outlay, l := someCase(r, 12)
		checkSlow(t, outlay, l)
		if _, e := Solve(outlay, l); e == api.OK {
			solved++
		}
		at := rates()[r.Intn(len(rates()))]
		checkFits(t, outlay, l, at, slowFits(outlay, l, at))
	}
	if solved < 500 {
		t.Error("too few are solved:", solved)
	}
	for range 40 {
		outlay, l := someCase(r, room)
		checkSlow(t, outlay, l)
	}
}

// P10.3: what is solved fits, and nothing else does, near it or anywhere; where nothing is solved, nothing fits.
func TestNothingElse(t *testing.T) {
	r := rand.New(rand.NewSource(2))
	for range 400 {
		outlay, l := someCase(r, 20)
		at, e := Solve(outlay, l)
		checkFits(t, outlay, l, at, e == api.OK)
		for range 100 {
			beside := 1 + r.Int63n(1<<r.Intn(44))
			checkFits(t, outlay, l, at+beside, false)
			checkFits(t, outlay, l, at-beside, false)
		}
	}
}

// P10.3: a greater outlay has no greater rate.
func TestGreaterOutlay(t *testing.T) {
	r := rand.New(rand.NewSource(3))
	for range 400 {
		outlay, l := someCase(r, 20)
		if slices.Max(l) == 0 {
			continue
		}
		at := place(t, outlay, l)
		for _, more := range []int64{1, 1 + r.Int63n(10), outlay, someAmount(r)} {
			if outlay+more > rich {
				continue
			}
			if then := place(t, outlay+more, l); then > at {
				t.Fatalf("%d and %v: %d; %d more: %d", outlay, told(l), at, more, then)
			}
		}
	}
	if place(t, 1000, []int64{500, 605}) <= place(t, 1001, []int64{500, 605}) {
		t.Error("1000, 1001")
	}
}

// P10.3: greater amounts have no less a rate, whichever of them are greater.
func TestGreaterAmounts(t *testing.T) {
	r := rand.New(rand.NewSource(4))
	for range 400 {
		outlay, l := someCase(r, 20)
		if slices.Max(l) == 0 {
			continue
		}
		at := place(t, outlay, l)
		for range 4 {
			greater := slices.Clone(l)
			for range 1 + r.Intn(3) {
				i := r.Intn(len(l))
				greater[i] = min(greater[i]+1+r.Int63n(1<<r.Intn(40)), rich)
			}
			if then := place(t, outlay, greater); then < at {
				t.Fatalf("%d and %v: %d; %v: %d", outlay, told(l), at, told(greater), then)
			}
		}
	}
	for i := range 2 {
		l := []int64{500, 605}
		l[i]++
		if place(t, 1000, l) <= place(t, 1000, []int64{500, 605}) {
			t.Error(l)
		}
	}
}

// P10.2: worked out by hand.
func TestYearNamed(t *testing.T) {
	for _, x := range []struct {
		r       int64
		periods int
		want    int64
	}{
		{tenth, 1, tenth},
		{tenth, 2, 210000000000},
		{tenth, 3, 331000000000},
		{unit / 100, 12, 126825030132},
		{0, 1, 0},
		{0, 12, 0},
		{0, room, 0},
		{1, 1, 1},
		{1, room, room},
		{-1, 1, -1},
		{-1, room, -room},
		{unit, 1, unit},
		{unit, 2, 3 * unit},
		{-unit / 2, 1, -unit / 2},
		{-unit / 2, 2, -unit * 3 / 4},
		{api.MinRate, 1, api.MinRate},
		{api.MinRate, 2, -999900000000},
		{api.MinRate, 6, 1 - unit},
		{api.MinRate, 7, -unit},
		{api.MinRate, room, -unit},
		{api.MinRate + 1, 1, api.MinRate + 1},
		{api.MaxRate, 1, api.MaxRate},
		{api.MaxRate - 1, 1, api.MaxRate - 1},
		{api.MaxRate, 2, 120 * unit},
		{api.MaxRate, 6, 1771560 * unit},
	} {
		checkYear(t, x.r, x.periods, x.want, api.OK)
	}
}

// P10.2: a power that is just not too great, and the next one.
func TestYearTooGreat(t *testing.T) {
	for _, x := range []struct {
		r       int64
		periods int
		want    int64
	}{
		{8885172371882, 7, 9223371036853182905},
		{2805462768008, 12, 9223371036834063323},
		{27089169194, room, 9223371034491204898},
	} {
		checkYear(t, x.r, x.periods, x.want, api.OK)
		checkYear(t, x.r+1, x.periods, 0, api.ErrOver)
	}
	for _, periods := range []int{7, 8, 100, room} {
		checkYear(t, api.MaxRate, periods, 0, api.ErrOver)
		checkYear(t, api.MaxRate-1, periods, 0, api.ErrOver)
	}
	checkYear(t, unit, 23, 8388607*unit, api.OK)
	checkYear(t, unit, 24, 0, api.ErrOver)
}

// P10.2 ErrArg: periods and rates that may not be, together too, and ahead of a power that is too great.
func TestYearWrong(t *testing.T) {
	wrong := []int{0, -1, room + 1, room + 2, -room, math.MinInt, math.MinInt + 1, math.MaxInt - 1, math.MaxInt, 1 << 32, 1<<32 + 1, -1 << 32}
	for _, periods := range wrong {
		for _, r := range anyRates() {
			checkYear(t, r, periods, 0, api.ErrArg)
		}
	}
	for _, r := range wrongRates() {
		for _, periods := range []int{1, 2, 12, room - 1, room} {
			checkYear(t, r, periods, 0, api.ErrArg)
		}
	}
}

// P10.2: any rates and periods, against the chapter's own words.
func TestYearSlow(t *testing.T) {
	for _, r := range anyRates() {
		for periods := -1; periods <= room+1; periods++ {
			checkSlowYear(t, r, periods)
		}
	}
	r := rand.New(rand.NewSource(5))
	for range 3000 {
		at, periods := r.Int63n(unit/5)-tenth, 1+r.Intn(room)
		if r.Intn(3) == 0 {
			at, periods = api.MinRate+r.Int63n(api.MaxRate-api.MinRate+1), 1+r.Intn(12)
		}
		checkSlowYear(t, at, periods)
	}
}

// Rule 4: the amounts are as they were, and what lies behind them; they may be changed as soon as the call has answered.
func TestNotChanged(t *testing.T) {
	for _, outlay := range []int64{-1, 1, 100, 1000, rich} {
		all := []int64{least, 500, 605, 0, 7, most, -3}
		was := slices.Clone(all)
		l := all[1:5]
		r, e := Solve(outlay, l)
		Fits(outlay, l, r)
		if !slices.Equal(all, was) {
			t.Fatal(all)
		}
		clear(l)
		if again, againE := Solve(outlay, was[1:5]); again != r || againE != e {
			t.Fatal(again, againE, r, e)
		}
		checkSolve(t, outlay, l, 0, api.ErrArg)
	}
}

// Rule 5: the same call answers the same, however often it is made, and on however many processors its goroutines run.
func TestSame(t *testing.T) {
	defer runtime.GOMAXPROCS(runtime.GOMAXPROCS(0))
	l := row(repeat(17, 30), []int64{1000})
	want, wantE := slowSolve(900, l)
	if wantE != api.OK {
		t.Fatal(wantE)
	}
	for _, processors := range []int{1, 2, 3, 16} {
		runtime.GOMAXPROCS(processors)
		for range 300 {
			if r, e := Solve(900, l); r != want || e != api.OK {
				t.Fatalf("on %d: %d, %d; want %d", processors, r, e, want)
			}
		}
	}
}

// Rule 5: calls at the same time don't touch one another, though they share the amounts.
func TestAtOnce(t *testing.T) {
	l := row(repeat(17, 30), []int64{1000})
	wants := make([]int64, 12)
	for i := range wants {
		wants[i], _ = slowSolve(int64(800+i), l)
	}
	var joined sync.WaitGroup
	for i, want := range wants {
		joined.Go(func() {
			for range 50 {
				if r, e := Solve(int64(800+i), l); r != want || e != api.OK || !Fits(int64(800+i), l, r) {
					t.Errorf("%d: %d, %d; want %d", i, r, e, want)
				}
			}
		})
	}
	joined.Wait()
}

// Rule 5: no goroutine is left behind, whatever the answer is. One whose answer was taken may need a moment to be gone.
func TestNoneLeft(t *testing.T) {
	before := runtime.NumGoroutine()
	for range 100 {
		for _, outlay := range []int64{0, 1, 100, 1000, rich} {
			Solve(outlay, []int64{1000})
			Fits(outlay, []int64{1000}, 0)
			Year(outlay, 12)
		}
	}
	for range 2000 {
		if runtime.NumGoroutine() <= before {
			return
		}
		time.Sleep(time.Millisecond)
	}
	t.Errorf("%d before, %d behind", before, runtime.NumGoroutine())
}

// The search itself: each place of short stretches, of another type, and none of the bounds is asked.
func TestLast(t *testing.T) {
	for high := -20; high <= 25; high++ {
		for low := -20; low <= high; low++ {
			for to := low - 1; to <= high+1; to++ {
				got := last(low, high, func(n int) bool {
					if n <= low || n >= high {
						t.Errorf("from %d to %d: %d is asked", low, high, n)
					}
					return n <= to
				})
				if want := max(low, min(to, high-1)); got != want {
					t.Fatalf("from %d to %d, up to %d: %d", low, high, to, got)
				}
			}
		}
	}
}

// P1: the search ends soon, for each round leaves a third; though what is asked holds here and there.
func TestEnds(t *testing.T) {
	var asked sync.Mutex
	for seed := range uint64(50) {
		times := 0
		r := last(api.MinRate-1, api.MaxRate+1, func(n int64) bool {
			asked.Lock()
			defer asked.Unlock()
			times++
			return (uint64(n)*0x9e3779b97f4a7c15+seed)>>40&1 == 1
		})
		if times > 60 || r < api.MinRate-1 || r > api.MaxRate {
			t.Errorf("%d: %d asked, %d", seed, times, r)
		}
	}
}

// meeting lets an asker go on only once another one asks as well, and tells it what the other one asks.
type meeting struct {
	there, back chan int64
}

// Where one has waited in vain, the test has failed, and no other one needs to wait.
func (m meeting) other(t *testing.T, n int64) int64 {
	if t.Failed() {
		return n
	}
	select {
	case m.there <- n:
		return <-m.back
	case other := <-m.there:
		m.back <- n
		return other
	case <-time.After(10 * time.Second):
		t.Error("asked alone:", n)
		return n
	}
}

// inTurn asks in pairs, and lets the greater one or the lesser answer first.
func inTurn(t *testing.T, greaterFirst bool, holds func(int64) bool) func(int64) bool {
	m := meeting{make(chan int64), make(chan int64)}
	return func(n int64) bool {
		if other := m.other(t, n); n != other && (n < other) == greaterFirst {
			time.Sleep(500 * time.Microsecond)
		}
		return holds(n)
	}
}

// The chapter's way: two rates are asked at once; and rule 6 of the language: whichever answers first, the rate is the same.
func TestEitherFirst(t *testing.T) {
	const up = 1000
	for to := int64(-1); to <= up; to += 77 {
		for _, greaterFirst := range []bool{true, false} {
			got := last(-1, up, inTurn(t, greaterFirst, func(n int64) bool { return n <= to }))
			if want := min(to, up-1); got != want {
				t.Fatalf("up to %d, the greater first %v: %d", to, greaterFirst, got)
			}
		}
	}
}

// Rule 6 of the language: each round's bounds are the same too, whichever answers first.
func TestBoundsEitherFirst(t *testing.T) {
	for _, x := range []struct{ to, low, high int64 }{{0, 0, 300}, {299, 0, 300}, {300, 300, 599}, {598, 300, 599}, {599, 599, 899}, {898, 599, 899}} {
		for _, greaterFirst := range []bool{true, false} {
			low, high := narrow(0, 899, inTurn(t, greaterFirst, func(n int64) bool { return n <= x.to }))
			if low != x.low || high != x.high {
				t.Errorf("up to %d, the greater first %v: %d, %d", x.to, greaterFirst, low, high)
			}
		}
	}
}
