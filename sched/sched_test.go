package sched

import (
	"math"
	"math/big"
	"math/rand"
	"slices"
	"testing"

	"lombard/api"
)

const (
	unit = api.Unit
	one  = api.Unit / 100 // a rate of 0.01
	room = api.MaxPeriods
	rich = api.MaxMoney
)

// wrongAmounts are beyond 1 to MaxMoney: one beyond, and far; some of them would be within, if bits were cut off.
func wrongAmounts() []int64 {
	return []int64{0, -1, -2, -rich, rich + 1, rich + 2, 2 * rich, 1 << 62, -1 << 62, math.MinInt64, math.MinInt64 + 1, math.MinInt64 + 5, math.MaxInt64 - 1, math.MaxInt64}
}

// wrongRates are beyond 0 to Unit.
func wrongRates() []int64 {
	return []int64{-1, -2, api.MinRate, -unit, unit + 1, unit + 2, api.MaxRate, 1 << 62, -1 << 62, math.MinInt64, math.MinInt64 + 1, math.MinInt64 + 5, math.MaxInt64 - 1, math.MaxInt64}
}

// wrongInts are beyond 1 to MaxPeriods, and beyond the kinds.
func wrongInts() []int {
	return []int{0, -1, -2, -room, room + 1, room + 2, 1 << 31, -1 << 31, 1<<32 + 1, 1<<32 + 4, 1<<62 + 1, -1 << 62, math.MinInt, math.MinInt + 1, math.MinInt + 4, math.MaxInt - 1, math.MaxInt}
}

func kinds() []int {
	return []int{Annuity, Linear, Interest, Bullet}
}

// slowInterest is layer 3's, in numbers of any size: to the nearer one, to the even one of two.
func slowInterest(x *big.Int, r int64) *big.Int {
	all := big.NewInt(unit)
	n, rest := new(big.Int).DivMod(new(big.Int).Mul(x, big.NewInt(r)), all, new(big.Int))
	half := rest.Lsh(rest, 1).Cmp(all)
	if half > 0 || half == 0 && n.Bit(0) == 1 {
		n.Add(n, big.NewInt(1))
	}
	return n
}

// slowPaysOff is P8.1's end word by word: it goes on to the last period, however much is left.
func slowPaysOff(left, r int64, periods int, amount int64) bool {
	n := big.NewInt(left)
	for range periods {
		n.Add(n, slowInterest(n, r))
		n.Sub(n, big.NewInt(amount))
		if n.Sign() <= 0 {
			return true
		}
	}
	return false
}

// slowLevel tries all amounts from 0 on.
func slowLevel(left, r int64, periods int) int64 {
	amount := int64(0)
	for !slowPaysOff(left, r, periods, amount) {
		amount++
	}
	return amount
}

func slowMay(t Terms) bool {
	if t.Kind != 1 && t.Kind != 2 && t.Kind != 3 && t.Kind != 4 {
		return false
	}
	for _, r := range t.Rates {
		if r < 0 || r > 1000000000000 {
			return false
		}
	}
	return t.Principal >= 1 && t.Principal <= 10000000000000 && t.Periods >= 1 && t.Periods <= 600 && len(t.Rates) >= 1 && len(t.Rates) <= t.Periods
}

// slowRates is a rate for each period.
func slowRates(t Terms) []int64 {
	l := slices.Clone(t.Rates)
	for len(l) < t.Periods {
		l = append(l, t.Rates[len(t.Rates)-1])
	}
	return l
}

// slowPart is what a linear loan pays off in a period: the first ones get the rest, one by one.
func slowPart(t Terms, at int) int64 {
	n := int64(t.Periods)
	if int64(at) < t.Principal%n {
		return t.Principal/n + 1
	}
	return t.Principal / n
}

// slowBuild is P8.2 word by word, by numbers of any size; of the annuity it takes Level's word, which is tested on its own.
func slowBuild(t Terms) ([]Row, api.Errno) {
	if !slowMay(t) {
		return nil, api.ErrArg
	}
	rates := slowRates(t)
	left, level := t.Principal, int64(0)
	var rows []Row
	for at, r := range rates {
		interest := slowInterest(big.NewInt(left), r).Int64()
		all := left + interest
		paid := all
		if at < t.Periods-1 {
			switch t.Kind {
			case Annuity:
				if at == 0 || rates[at] != rates[at-1] {
					level, _ = Level(left, r, t.Periods-at)
				}
				if level < all {
					paid = level
				}
			case Linear:
				paid = interest + slowPart(t, at)
			case Interest:
				paid = interest
			case Bullet:
				paid = 0
			}
		}
		left = all - paid
		rows = append(rows, Row{interest, paid, paid - interest, left})
		if left > rich || paid > rich {
			return nil, api.ErrOver
		}
	}
	return rows, api.OK
}

func checkCheck(t *testing.T, x Terms, want api.Errno) {
	t.Helper()
	if e := Check(x); e != want {
		t.Fatalf("Check of %v: %d, want %d", x, e, want)
	}
}

func checkLevel(t *testing.T, left, r int64, periods int, want int64, wantE api.Errno) {
	t.Helper()
	if n, e := Level(left, r, periods); n != want || e != wantE {
		t.Fatalf("Level of %d, %d, %d: %d, %d; want %d, %d", left, r, periods, n, e, want, wantE)
	}
}

// checkLeast holds a level payment against what the words say of it: it pays off, and one less doesn't.
func checkLeast(t *testing.T, left, r int64, periods int) {
	t.Helper()
	n, e := Level(left, r, periods)
	if e != api.OK || n < 0 || !slowPaysOff(left, r, periods, n) || n > 0 && slowPaysOff(left, r, periods, n-1) {
		t.Fatalf("Level of %d, %d, %d: %d, %d", left, r, periods, n, e)
	}
}

func checkBuild(t *testing.T, x Terms, want []Row, wantE api.Errno) {
	t.Helper()
	if rows, e := Build(x); !slices.Equal(rows, want) || e != wantE {
		t.Fatalf("Build of %v: %v, %d; want %v, %d", x, rows, e, want, wantE)
	}
}

// checkRefused holds terms that may not be against both calls.
func checkRefused(t *testing.T, x Terms) {
	t.Helper()
	checkCheck(t, x, api.ErrArg)
	checkBuild(t, x, nil, api.ErrArg)
}

// checkSlow holds terms against the chapter's own words, and what is built against P8.3.
func checkSlow(t *testing.T, x Terms) {
	t.Helper()
	rows, e := slowBuild(x)
	checkBuild(t, x, rows, e)
	if want := map[bool]api.Errno{true: api.OK, false: api.ErrArg}[slowMay(x)]; Check(x) != want {
		t.Fatalf("Check of %v: %d, want %d", x, Check(x), want)
	}
	if e == api.OK {
		checkWhole(t, x)
	}
}

// checkWhole is P8.3.
func checkWhole(t *testing.T, x Terms) {
	t.Helper()
	rows, _ := Build(x)
	var interest, paid, principal int64
	for _, row := range rows {
		interest += row.Interest
		paid += row.Paid
		principal += row.Principal
	}
	if len(rows) != x.Periods || rows[len(rows)-1].Left != 0 || principal != x.Principal || paid != x.Principal+interest {
		t.Fatalf("Build of %v: %d rows, paid %d, interest %d, principal %d, left %d", x, len(rows), paid, interest, principal, rows[len(rows)-1].Left)
	}
}

// repeat is a list of one number, so many times.
func repeat(n int64, times int) []int64 {
	return slices.Repeat([]int64{n}, times)
}

// someAmount is from 1 to MaxMoney, of any width.
func someAmount(r *rand.Rand) int64 {
	switch r.Intn(8) {
	case 0:
		return rich - int64(r.Intn(3))
	case 1:
		return 1 + int64(r.Intn(3))
	}
	return 1 + r.Int63n(rich)>>r.Intn(43)
}

// someRate is from 0 to Unit; rates of everyday, the bounds and those that round to nothing come often.
func someRate(r *rand.Rand) int64 {
	switch r.Intn(8) {
	case 0:
		return 0
	case 1:
		return unit - int64(r.Intn(3))
	case 2:
		return int64(r.Intn(3))
	case 3:
		return unit / 1000 * int64(r.Intn(1001))
	case 4:
		return unit / 2 >> r.Intn(6)
	}
	return r.Int63n(unit+1) >> r.Intn(40)
}

// someRates change now and then, and stay the same now and then.
func someRates(r *rand.Rand, times int) []int64 {
	few := []int64{someRate(r), someRate(r)}
	l := make([]int64, times)
	for i := range l {
		switch r.Intn(4) {
		case 0:
			l[i] = someRate(r)
		case 1:
			l[i] = few[r.Intn(len(few))]
		default:
			l[i] = few[0]
		}
	}
	return l
}

// someTerms may be.
func someTerms(r *rand.Rand, most int) Terms {
	periods := 1 + r.Intn(most)
	return Terms{1 + r.Intn(4), someAmount(r), someRates(r, 1+r.Intn(periods)), periods}
}

// The kinds are the document's.
func TestKinds(t *testing.T) {
	if got := []int{Annuity, Linear, Interest, Bullet}; !slices.Equal(got, []int{1, 2, 3, 4}) {
		t.Errorf("%v", got)
	}
}

// P8.1 Check: what may be: both ends of each.
func TestCheckMay(t *testing.T) {
	for _, kind := range kinds() {
		for _, principal := range []int64{1, 2, 1000, rich - 1, rich} {
			for _, r := range []int64{0, 1, one, unit - 1, unit} {
				for _, periods := range []int{1, 2, 12, room - 1, room} {
					checkCheck(t, Terms{kind, principal, []int64{r}, periods}, api.OK)
					checkCheck(t, Terms{kind, principal, repeat(r, periods), periods}, api.OK)
					checkCheck(t, Terms{kind, principal, repeat(r, (periods+1)/2), periods}, api.OK)
				}
			}
		}
	}
}

// P8.1 Check, and P8.2's first error: one thing that may not be, at terms of each kind; nil and empty are one.
func TestRefused(t *testing.T) {
	for _, kind := range kinds() {
		for _, n := range wrongAmounts() {
			checkRefused(t, Terms{kind, n, []int64{one}, 4})
		}
		for _, n := range wrongInts() {
			checkRefused(t, Terms{kind, 1000, []int64{one}, n})
			checkRefused(t, Terms{kind, 1000, nil, n})
		}
		for _, periods := range []int{1, 2, 12, room} {
			checkRefused(t, Terms{kind, 1000, nil, periods})
			checkRefused(t, Terms{kind, 1000, []int64{}, periods})
			checkRefused(t, Terms{kind, 1000, make([]int64, 0, 9), periods})
			checkRefused(t, Terms{kind, 1000, repeat(one, periods+1), periods})
			checkRefused(t, Terms{kind, 1000, repeat(one, 5000), periods})
		}
		checkRefused(t, Terms{kind, 1000, repeat(one, room+1), room + 1})
	}
	for _, n := range wrongInts() {
		checkRefused(t, Terms{n, 1000, []int64{one}, 4})
	}
	for _, n := range []int{5, 6, 7} {
		checkRefused(t, Terms{n, 1000, []int64{one}, 4})
	}
	checkRefused(t, Terms{})
}

// P8.1 Check: a rate that may not be, at each place.
func TestRefusedRates(t *testing.T) {
	for _, kind := range kinds() {
		for _, periods := range []int{1, 2, 5, room} {
			for _, times := range []int{1, (periods + 1) / 2, periods} {
				for i := range times {
					for _, r := range wrongRates() {
						rates := repeat(one, times)
						rates[i] = r
						checkRefused(t, Terms{kind, 1000, rates, periods})
					}
				}
			}
		}
	}
}

// P8.1 Check: what may not be is told ahead of what comes to too much.
func TestRefusedFirst(t *testing.T) {
	for _, kind := range kinds() {
		checkBuild(t, Terms{kind, rich, []int64{unit, unit}, 2}, nil, api.ErrOver)
		checkBuild(t, Terms{kind, rich, []int64{unit, unit + 1}, 2}, nil, api.ErrArg)
		checkBuild(t, Terms{kind, rich, []int64{unit, unit, unit}, 2}, nil, api.ErrArg)
		checkBuild(t, Terms{kind, rich + 1, []int64{unit, unit}, 2}, nil, api.ErrArg)
	}
}

// P8.1 Level: the document's example, and others worked out by hand.
func TestLevelNamed(t *testing.T) {
	for _, x := range []struct {
		left, r int64
		periods int
		want    int64
	}{
		{1000, one, 4, 257},
		{1000, one, 3, 340},
		{670, 2 * one, 2, 345},
		{1000, one, 1, 1010},
		{1000, 0, 4, 250},
		{1001, 0, 4, 251},
		{999, 0, 4, 250},
		{1000, 0, 1, 1000},
		{1000, unit, 1, 2000},
		{1000, unit, 2, 1334}, // 666 are left, and come to 1332; by 1333 it would be 667, and 1334
		{3, 0, 2, 2},
		// nothing to pay
		{0, 0, 1, 0},
		{0, one, 4, 0},
		{0, unit, room, 0},
		// one
		{1, 0, 1, 1},
		{1, 0, room, 1},
		{1, one, 1, 1}, // 0.01 rounds to 0
		{1, unit, 1, 2},
		{1, unit, 2, 2}, // 1 would be left for ever
		{1, unit, room, 2},
		{2, unit, room, 3},
		{1, unit / 2, 1, 1}, // 0.5 goes to 0
		{1, unit/2 + 1, 1, 2},
		{1, unit/2 + 1, room, 2},
		{3, unit / 2, 1, 5}, // 1.5 goes to 2
		// interest that rounds to 0, though the rate is above it
		{50, one, 1, 50}, // 0.5
		{51, one, 1, 52},
		{50, one, 50, 1},
		{50, one, 49, 2},
		{51, one, room, 2},
		{600, 1, room, 1},
		{600, 1, room - 1, 2},
		{rich, 0, room, 16666666667},
		{rich, 0, 1, rich},
		{rich, 1, 1, rich + 10},
		{rich, unit, 1, 2 * rich},
		{rich, unit, room, rich + 1}, // just above the interest
		{rich, unit - 1, 1, 2*rich - 10},
		{rich - 1, unit, 1, 2*rich - 2},
		{rich - 1, unit, room, rich},
	} {
		checkLevel(t, x.left, x.r, x.periods, x.want, api.OK)
		checkLeast(t, x.left, x.r, x.periods)
	}
}

// P8.1 Level: what may not be, in each place; the bounds that may.
func TestLevelRefused(t *testing.T) {
	for _, n := range wrongAmounts() {
		if n != 0 { // nothing may be left
			checkLevel(t, n, one, 4, 0, api.ErrArg)
			checkLevel(t, n, -1, 0, 0, api.ErrArg)
		}
	}
	for _, left := range []int64{0, 1, 1000, rich} {
		for _, r := range wrongRates() {
			checkLevel(t, left, r, 4, 0, api.ErrArg)
		}
		for _, n := range wrongInts() {
			checkLevel(t, left, one, n, 0, api.ErrArg)
			checkLevel(t, left, 0, n, 0, api.ErrArg)
		}
	}
}

// P8.1 Level: the edges of all three, against the words: the least that pays off, and one less.
func TestLevelEdges(t *testing.T) {
	for _, left := range []int64{0, 1, 2, 3, 49, 50, 51, 599, 600, 601, 1000, rich / 2, rich - 1, rich} {
		for _, r := range []int64{0, 1, 2, one / 12, one - 1, one, one + 1, unit/2 - 1, unit / 2, unit/2 + 1, unit - 1, unit} {
			for _, periods := range []int{1, 2, 3, 4, 12, 360, room - 1, room} {
				checkLeast(t, left, r, periods)
			}
		}
	}
}

// P8.1 Level: all small amounts, each sought from 0 on.
func TestLevelSmall(t *testing.T) {
	for left := range int64(80) {
		for _, r := range []int64{0, 1, one, 3 * one, 10 * one, 25 * one, unit / 3, unit/2 - 1, unit / 2, unit/2 + 1, unit / 4 * 3, unit - 1, unit} {
			for _, periods := range []int{1, 2, 3, 5, 7, 30, 79, 80} {
				checkLevel(t, left, r, periods, slowLevel(left, r, periods), api.OK)
			}
		}
	}
}

// P8.1 Level: any that may be; no amount below it pays off either.
func TestLevelSlow(t *testing.T) {
	r := rand.New(rand.NewSource(1))
	for range 3000 {
		left, bears, periods := someAmount(r), someRate(r), 1+r.Intn(30)
		if r.Intn(20) == 0 {
			periods = room - r.Intn(3)
		}
		checkLeast(t, left, bears, periods)
		n, _ := Level(left, bears, periods)
		if below := r.Int63n(n + 1); below < n && slowPaysOff(left, bears, periods, below) {
			t.Fatalf("Level of %d, %d, %d: %d, but %d will do", left, bears, periods, n, below)
		}
	}
}

// P8.2: the document's examples, and others worked out by hand.
func TestBuildNamed(t *testing.T) {
	for _, x := range []struct {
		t    Terms
		want []Row
	}{
		{Terms{Linear, 1000, []int64{one}, 4}, []Row{{10, 260, 250, 750}, {8, 258, 250, 500}, {5, 255, 250, 250}, {2, 252, 250, 0}}},
		{Terms{Annuity, 1000, []int64{one}, 4}, []Row{{10, 257, 247, 753}, {8, 257, 249, 504}, {5, 257, 252, 252}, {3, 255, 252, 0}}},
		{Terms{Interest, 1000, []int64{one, 2 * one}, 3}, []Row{{10, 10, 0, 1000}, {20, 20, 0, 1000}, {20, 1020, 1000, 0}}},
		{Terms{Bullet, 1000, []int64{10 * one}, 3}, []Row{{100, 0, -100, 1100}, {110, 0, -110, 1210}, {121, 1331, 1210, 0}}},
		// rates that change in each period, and in the last one alone
		{Terms{Linear, 1000, []int64{one, 0, 2 * one, unit}, 4}, []Row{{10, 260, 250, 750}, {0, 250, 250, 500}, {10, 260, 250, 250}, {250, 500, 250, 0}}},
		{Terms{Bullet, 1000, []int64{10 * one, 0, unit}, 3}, []Row{{100, 0, -100, 1100}, {0, 0, 0, 1100}, {1100, 2200, 1100, 0}}},
		{Terms{Interest, 1000, []int64{0, one}, 2}, []Row{{0, 0, 0, 1000}, {10, 1010, 1000, 0}}},
		// a linear loan's rest goes to the first ones
		{Terms{Linear, 10, []int64{0}, 3}, []Row{{0, 4, 4, 6}, {0, 3, 3, 3}, {0, 3, 3, 0}}},
		{Terms{Linear, 11, []int64{0}, 3}, []Row{{0, 4, 4, 7}, {0, 4, 4, 3}, {0, 3, 3, 0}}},
		// less than there are periods
		{Terms{Linear, 2, []int64{unit}, 4}, []Row{{2, 3, 1, 1}, {1, 2, 1, 0}, {0, 0, 0, 0}, {0, 0, 0, 0}}},
		{Terms{Annuity, 1, []int64{0}, 3}, []Row{{0, 1, 1, 0}, {0, 0, 0, 0}, {0, 0, 0, 0}}},
		{Terms{Annuity, 2, []int64{unit}, 4}, []Row{{2, 3, 1, 1}, {1, 2, 1, 0}, {0, 0, 0, 0}, {0, 0, 0, 0}}},
		{Terms{Interest, 1, []int64{one}, 3}, []Row{{0, 0, 0, 1}, {0, 0, 0, 1}, {0, 1, 1, 0}}},
		{Terms{Bullet, 1, []int64{unit}, 4}, []Row{{1, 0, -1, 2}, {2, 0, -2, 4}, {4, 0, -4, 8}, {8, 16, 8, 0}}},
		// interest that rounds to 0, and just doesn't
		{Terms{Bullet, 50, []int64{one}, 3}, []Row{{0, 0, 0, 50}, {0, 0, 0, 50}, {0, 50, 50, 0}}},
		{Terms{Bullet, 51, []int64{one}, 3}, []Row{{1, 0, -1, 52}, {1, 0, -1, 53}, {1, 54, 53, 0}}},
	} {
		checkCheck(t, x.t, api.OK)
		checkBuild(t, x.t, x.want, api.OK)
		checkWhole(t, x.t)
	}
	for _, kind := range kinds() {
		checkBuild(t, Terms{kind, 1000, []int64{one}, 1}, []Row{{10, 1010, 1000, 0}}, api.OK)
		checkBuild(t, Terms{kind, 1000, []int64{0}, 1}, []Row{{0, 1000, 1000, 0}}, api.OK)
		checkBuild(t, Terms{kind, 1000, []int64{unit}, 1}, []Row{{1000, 2000, 1000, 0}}, api.OK)
		checkBuild(t, Terms{kind, 1, []int64{one}, 1}, []Row{{0, 1, 1, 0}}, api.OK)
	}
}

// P8.2 Annuity: the level payment is reckoned anew where the rate changes, and only there.
func TestBuildLevels(t *testing.T) {
	for _, x := range []struct {
		rates   []int64
		n       int64
		periods int
		want    []Row
	}{
		// reckoned anew, the second one would be 33
		{[]int64{0}, 100, 3, []Row{{0, 34, 34, 66}, {0, 34, 34, 32}, {0, 32, 32, 0}}},
		{[]int64{0, 0}, 100, 3, []Row{{0, 34, 34, 66}, {0, 34, 34, 32}, {0, 32, 32, 0}}},
		{[]int64{0, 0, 0}, 100, 3, []Row{{0, 34, 34, 66}, {0, 34, 34, 32}, {0, 32, 32, 0}}},
		// the least change of the rate, whose interest is 0, is one
		{[]int64{0, 1}, 100, 3, []Row{{0, 34, 34, 66}, {0, 33, 33, 33}, {0, 33, 33, 0}}},
		{[]int64{1, 0, 0}, 100, 3, []Row{{0, 34, 34, 66}, {0, 33, 33, 33}, {0, 33, 33, 0}}},
		{[]int64{0, 0, 1}, 100, 3, []Row{{0, 34, 34, 66}, {0, 34, 34, 32}, {0, 32, 32, 0}}},
		// back to the first rate, but not to the first payment
		{[]int64{0, 1, 0}, 101, 4, []Row{{0, 26, 26, 75}, {0, 25, 25, 50}, {0, 25, 25, 25}, {0, 25, 25, 0}}},
		{[]int64{one, 2 * one}, 1000, 3, []Row{{10, 340, 330, 670}, {13, 345, 332, 338}, {7, 345, 338, 0}}},
		{[]int64{one, one, 2 * one}, 1000, 3, []Row{{10, 340, 330, 670}, {7, 340, 333, 337}, {7, 344, 337, 0}}},
		// paid off ahead of the end: a last payment that is less, then none, whatever the rates are
		{[]int64{0}, 9, 5, []Row{{0, 2, 2, 7}, {0, 2, 2, 5}, {0, 2, 2, 3}, {0, 2, 2, 1}, {0, 1, 1, 0}}},
		{[]int64{0}, 5, 4, []Row{{0, 2, 2, 3}, {0, 2, 2, 1}, {0, 1, 1, 0}, {0, 0, 0, 0}}},
		{[]int64{0, 0, 0, unit}, 5, 4, []Row{{0, 2, 2, 3}, {0, 2, 2, 1}, {0, 1, 1, 0}, {0, 0, 0, 0}}},
		{[]int64{0, 0, 0, unit}, 5, 5, []Row{{0, 1, 1, 4}, {0, 1, 1, 3}, {0, 1, 1, 2}, {2, 3, 1, 1}, {1, 2, 1, 0}}},
		{[]int64{0, 0, 0, 0, unit, 0}, 6, 7, []Row{{0, 1, 1, 5}, {0, 1, 1, 4}, {0, 1, 1, 3}, {0, 1, 1, 2}, {2, 3, 1, 1}, {0, 1, 1, 0}, {0, 0, 0, 0}}},
	} {
		terms := Terms{Annuity, x.n, x.rates, x.periods}
		checkBuild(t, terms, x.want, api.OK)
		checkWhole(t, terms)
	}
}

// P8.2 ErrOver: a Left or a Paid that comes just to MaxMoney, and one above.
func TestBuildOver(t *testing.T) {
	for _, x := range []struct {
		t    Terms
		want []Row // none: ErrOver
	}{
		// what is paid at the end
		{Terms{Bullet, rich, []int64{0}, 1}, []Row{{0, rich, rich, 0}}},
		{Terms{Bullet, rich, []int64{1}, 1}, nil},
		{Terms{Bullet, rich / 2, []int64{unit}, 1}, []Row{{rich / 2, rich, rich / 2, 0}}},
		{Terms{Bullet, rich/2 + 1, []int64{unit}, 1}, nil},
		{Terms{Bullet, rich - 10, []int64{1}, 1}, []Row{{10, rich, rich - 10, 0}}},
		{Terms{Bullet, rich - 9, []int64{1}, 1}, nil},
		{Terms{Interest, rich - 10, []int64{0, 1}, 2}, []Row{{0, 0, 0, rich - 10}, {10, rich, rich - 10, 0}}},
		{Terms{Interest, rich - 9, []int64{0, 1}, 2}, nil},
		{Terms{Interest, rich, []int64{one, 0}, 2}, []Row{{rich / 100, rich / 100, 0, rich}, {0, rich, rich, 0}}},
		{Terms{Interest, rich, []int64{unit, 0}, 2}, []Row{{rich, rich, 0, rich}, {0, rich, rich, 0}}},
		{Terms{Interest, rich, []int64{0, one}, 2}, nil},
		// what is left
		{Terms{Bullet, rich / 2, []int64{unit, 0}, 2}, []Row{{rich / 2, 0, -rich / 2, rich}, {0, rich, rich, 0}}},
		{Terms{Bullet, rich/2 + 1, []int64{unit, 0}, 2}, nil},
		{Terms{Bullet, rich / 4, []int64{unit, unit, 0}, 3}, []Row{{rich / 4, 0, -rich / 4, rich / 2}, {rich / 2, 0, -rich / 2, rich}, {0, rich, rich, 0}}},
		{Terms{Bullet, rich/4 + 1, []int64{unit, unit, 0}, 3}, nil},
		{Terms{Bullet, rich - 10, []int64{1, 0}, 2}, []Row{{10, 0, -10, rich}, {0, rich, rich, 0}}},
		{Terms{Bullet, rich - 9, []int64{1, 0}, 2}, nil},
		{Terms{Bullet, rich, []int64{0, 0, 1}, 3}, nil},
		// what is paid on the way
		{Terms{Linear, rich, []int64{0}, 1}, []Row{{0, rich, rich, 0}}},
		{Terms{Linear, rich, []int64{unit / 2, 0}, 2}, []Row{{rich / 2, rich, rich / 2, rich / 2}, {0, rich / 2, rich / 2, 0}}},
		{Terms{Linear, rich, []int64{unit/2 + 1, 0}, 2}, nil},
		{Terms{Linear, rich - 1, []int64{unit / 2, 0}, 2}, []Row{{rich / 2, rich, rich / 2, rich/2 - 1}, {0, rich/2 - 1, rich/2 - 1, 0}}},
		{Terms{Linear, rich - 10, []int64{unit/2 + 1, 0}, 2}, []Row{{rich/2 + 5, rich, rich/2 - 5, rich/2 - 5}, {0, rich/2 - 5, rich/2 - 5, 0}}},
		{Terms{Linear, rich - 9, []int64{unit/2 + 1, 0}, 2}, nil},
		{Terms{Linear, rich, []int64{0, unit}, 2}, []Row{{0, rich / 2, rich / 2, rich / 2}, {rich / 2, rich, rich / 2, 0}}},
		{Terms{Annuity, rich, []int64{0}, 1}, []Row{{0, rich, rich, 0}}},
		{Terms{Annuity, rich, []int64{1}, 1}, nil},
		{Terms{Annuity, rich, []int64{unit}, room}, nil},
		{Terms{Annuity, 3, []int64{unit}, 2}, []Row{{3, 4, 1, 2}, {2, 4, 2, 0}}},
	} {
		if x.want == nil {
			checkCheck(t, x.t, api.OK)
			checkBuild(t, x.t, nil, api.ErrOver)
			continue
		}
		checkBuild(t, x.t, x.want, api.OK)
		checkWhole(t, x.t)
	}
}

// P8.2 ErrOver of an annuity: a level payment of just MaxMoney, and of one more.
func TestBuildLevelOver(t *testing.T) {
	// at the rate Unit what is left doubles: one less than MaxMoney, in many periods, bears all but the 1 that is paid off
	rows, e := Build(Terms{Annuity, rich - 1, []int64{unit}, room})
	if e != api.OK || rows[0] != (Row{rich - 1, rich, 1, rich - 2}) || rows[1] != (Row{rich - 2, rich, 2, rich - 4}) || rows[room-1] != (Row{}) {
		t.Errorf("%d, %v", e, rows[:min(2, len(rows))])
	}
	checkBuild(t, Terms{Annuity, rich, []int64{unit}, room}, nil, api.ErrOver)
	for _, rates := range [][]int64{{unit / 2}, {0, unit}, {0, 0, unit - 1}} {
		for n := int64(rich - 5); n <= rich; n++ {
			checkSlow(t, Terms{Annuity, n, rates, 3})
			checkSlow(t, Terms{Annuity, n / 10 * 9, rates, 3})
		}
	}
}

// P8.2 and P8.3: all edges together, against the chapter's own words.
func TestBuildEdges(t *testing.T) {
	for _, kind := range kinds() {
		for _, principal := range []int64{1, 2, 50, 51, 599, 600, 601, 1000, rich / 2, rich - 1, rich} {
			for _, periods := range []int{1, 2, 3, 12, room - 1, room} {
				for _, rates := range [][]int64{{0}, {1}, {one / 12}, {one}, {unit / 2}, {unit - 1}, {unit}, {0, one}, {one, 0}, {one, one, 2 * one}, {one, one / 2, one}} {
					if len(rates) <= periods {
						checkSlow(t, Terms{kind, principal, rates, periods})
					}
				}
			}
		}
	}
}

// P8.2 and P8.3: any terms that may be, against the chapter's own words.
func TestBuildSlow(t *testing.T) {
	r := rand.New(rand.NewSource(2))
	for range 8000 {
		checkSlow(t, someTerms(r, 12))
	}
	for range 200 {
		checkSlow(t, someTerms(r, room))
	}
}

// P8.2: as many rates as periods, each another one.
func TestBuildManyRates(t *testing.T) {
	rates := make([]int64, room)
	for i := range rates {
		rates[i] = one/12 + int64(i)*1000003
	}
	for _, kind := range kinds() {
		for _, principal := range []int64{1, 100, 1000000, rich / 1000} {
			checkSlow(t, Terms{kind, principal, rates, room})
			checkSlow(t, Terms{kind, principal, rates[:room-1], room})
			checkSlow(t, Terms{kind, principal, rates, room - 1})
		}
	}
}

// P8.2: what is behind the last rate is as if the last one were repeated, whether or not there is spare room behind it.
func TestBuildLastRate(t *testing.T) {
	r := rand.New(rand.NewSource(3))
	for range 2000 {
		x := someTerms(r, 20)
		want, wantE := Build(x)
		full := x
		full.Rates = slowRates(x)
		checkBuild(t, full, want, wantE)
		spare := append(slices.Clone(x.Rates), -1, -2, -3)
		full.Rates = spare[:len(x.Rates)]
		checkBuild(t, full, want, wantE)
	}
}

// P8.3 of an annuity: each payment is the level one, till a last one that is no more, then none; what is left never rises.
func TestAnnuityShape(t *testing.T) {
	r := rand.New(rand.NewSource(4))
	for range 3000 {
		x := Terms{Annuity, 1 + someAmount(r)/4, []int64{someRate(r)}, 1 + r.Intn(40)}
		level, _ := Level(x.Principal, x.Rates[0], x.Periods)
		rows, e := Build(x)
		if e != api.OK {
			if level <= rich {
				t.Fatalf("Build of %v: %d, of the level payment %d", x, e, level)
			}
			continue
		}
		left := x.Principal
		for _, row := range rows {
			if row.Paid > level || row.Left > 0 && row.Paid != level || row.Left > left || left > 0 && row.Left == left || row.Left < 0 {
				t.Fatalf("Build of %v: %v, of the level payment %d", x, rows, level)
			}
			left = row.Left
		}
	}
}

// Rule 4: the rates are as they were, their spare room too, whether a call fails or not.
func TestUnchanged(t *testing.T) {
	r := rand.New(rand.NewSource(5))
	for range 3000 {
		x := someTerms(r, 12)
		if r.Intn(3) == 0 {
			x.Rates[r.Intn(len(x.Rates))] = int64(r.Uint64())
		}
		all := append(x.Rates, -1, -2)
		was := slices.Clone(all)
		x.Rates = all[:len(all)-2]
		Check(x)
		Build(x)
		if !slices.Equal(all, was) {
			t.Fatalf("%v, want %v", all, was)
		}
	}
}

// Rule 4: an answer is new memory, its spare room too: to change one changes neither the rates nor another answer; and it doesn't change with the rates.
func TestAnswersNew(t *testing.T) {
	for _, kind := range kinds() {
		for _, periods := range []int{1, 2, 3, 7, room} {
			rates := repeat(one/10, (periods+1)/2)
			was := slices.Clone(rates)
			x := Terms{kind, 1000, rates, periods}
			first, _ := Build(x)
			wasFirst := slices.Clone(first)
			second, _ := Build(x)
			second = second[:cap(second)]
			for i := range second {
				second[i] = Row{-1, -2, -3, -4}
			}
			if !slices.Equal(first, wasFirst) || !slices.Equal(rates, was) {
				t.Errorf("%v, %v; want %v, %v", first, rates, wasFirst, was)
			}
			for i := range rates {
				rates[i] = -5
			}
			if !slices.Equal(first, wasFirst) {
				t.Errorf("%v, want %v", first, wasFirst)
			}
			copy(rates, was)
			checkBuild(t, x, wasFirst, api.OK)
		}
	}
}

// The generic search finds the least number of any width, up to the greatest one that the width has.
func TestLeast(t *testing.T) {
	for top := 0; top <= math.MaxInt8; top++ {
		for want := 0; want <= top; want++ {
			got := least(int8(top), func(n int8) bool { return int(n) >= want })
			if int(got) != want {
				t.Fatalf("%d up to %d: %d", want, top, got)
			}
		}
	}
	for _, want := range []int64{0, 1, math.MaxInt64 / 2, math.MaxInt64 - 1, math.MaxInt64} {
		tries := 0
		got := least(math.MaxInt64, func(n int64) bool {
			tries++
			return n >= want
		})
		if got != want || tries > 64 {
			t.Errorf("%d: %d, in %d tries", want, got, tries)
		}
	}
}

// P1: any numbers, any lengths: each call ends, and beside an error there is nothing.
func TestAnyArguments(t *testing.T) {
	r := rand.New(rand.NewSource(6))
	any64 := func() int64 { return int64(r.Uint64()) >> r.Intn(64) }
	ints := append(wrongInts(), 1, 2, 3, 4, 5, room)
	amounts := append(append(wrongAmounts(), wrongRates()...), 1, rich, unit)
	for range 30000 {
		x := Terms{ints[r.Intn(len(ints))], amounts[r.Intn(len(amounts))], make([]int64, r.Intn(6)), ints[r.Intn(len(ints))]}
		for i := range x.Rates {
			x.Rates[i] = amounts[r.Intn(len(amounts))]
			if r.Intn(2) == 0 {
				x.Rates[i] = any64()
			}
		}
		if r.Intn(2) == 0 {
			x.Kind = 1 + r.Intn(4)
		}
		checkSlow(t, x)
		left, bears, periods := any64(), any64(), int(any64())
		n, e := Level(left, bears, periods)
		may := left >= 0 && left <= rich && bears >= 0 && bears <= unit && periods >= 1 && periods <= room
		if may != (e == api.OK) || !may && (n != 0 || e != api.ErrArg) {
			t.Fatalf("Level of %d, %d, %d: %d, %d", left, bears, periods, n, e)
		}
	}
}
