package rate

import (
	"math"
	"math/big"
	"math/rand"
	"slices"
	"testing"

	"lombard/api"
)

const (
	least = math.MinInt64
	most  = math.MaxInt64
	half  = api.Unit / 2
)

// amounts are those at which something turns: the bounds, 0, and what a rate at its own bounds takes just to them.
func amounts() []int64 {
	l := []int64{least, most}
	for _, n := range []int64{0, 5, api.Unit, api.MaxMoney, 1 << 32, 1 << 62, most / 2, most / 10, most / 11, most / 100, most - 2} {
		for d := int64(-2); d <= 2; d++ {
			l = append(l, n+d, -n+d)
		}
	}
	return once(l)
}

// rates are the bounds, 0 and some between, with those beside each; all of them may be.
func rates() []int64 {
	l := []int64{api.MinRate, api.MinRate + 1, api.MaxRate - 1, api.MaxRate}
	for _, r := range []int64{0, 50000000000, 27089169194, half, api.Unit, -half, -900000000000} {
		l = append(l, r-1, r, r+1)
	}
	return once(l)
}

// wrongRates are one beyond the bounds, and far beyond: where a bound and Unit go round too, and where Unit and the rate are 0.
func wrongRates() []int64 {
	return []int64{api.MinRate - 1, api.MaxRate + 1, -api.Unit, -api.Unit - 1, -2 * api.Unit, least, least + 1, most, most - api.Unit + 1}
}

func once(l []int64) []int64 {
	slices.Sort(l)
	return slices.Compact(l)
}

// someNumber is of any width.
func someNumber(r *rand.Rand) int64 {
	return int64(r.Uint64()) >> r.Intn(64)
}

// someRate may be; half of them are near 0, as rates are.
func someRate(r *rand.Rand) int64 {
	if r.Intn(2) == 0 {
		return r.Int63n(api.Unit/5) - api.Unit/10
	}
	return api.MinRate + r.Int63n(api.MaxRate-api.MinRate+1)
}

// slow is a times b by c to the nearer one, the even one of two, in numbers of any size.
func slow(a, b, c int64) (int64, api.Errno) {
	exact := new(big.Rat).SetFrac(new(big.Int).Mul(big.NewInt(a), big.NewInt(b)), big.NewInt(c))
	below := new(big.Int).Div(exact.Num(), exact.Denom())
	rest := new(big.Rat).Sub(exact, new(big.Rat).SetInt(below))
	if d := rest.Cmp(big.NewRat(1, 2)); d > 0 || d == 0 && below.Bit(0) == 1 {
		below.Add(below, big.NewInt(1))
	}
	if !below.IsInt64() {
		return 0, api.ErrOver
	}
	return below.Int64(), api.OK
}

// checkSlow holds the calls of one amount and a rate that may be against P3.1 word by word.
func checkSlow(t *testing.T, x, r int64) {
	t.Helper()
	for name, do := range map[string]struct {
		fast      func(x, r int64) (int64, api.Errno)
		times, by int64
	}{
		"Interest": {Interest, r, api.Unit},
		"Grow":     {Grow, api.Unit + r, api.Unit},
		"Discount": {Discount, api.Unit, api.Unit + r},
	} {
		want, wantE := slow(x, do.times, do.by)
		if n, e := do.fast(x, r); n != want || e != wantE {
			t.Fatalf("%s of %d at %d: %d, %d; want %d, %d", name, x, r, n, e, want, wantE)
		}
	}
}

// P3.1 May: the bounds belong to it.
func TestMay(t *testing.T) {
	for _, r := range rates() {
		if !May(r) {
			t.Errorf("%d may not be", r)
		}
	}
	for _, r := range wrongRates() {
		if May(r) {
			t.Errorf("%d may be", r)
		}
	}
}

// P3.1: amounts at rates, worked out by hand.
func TestNamed(t *testing.T) {
	for i, x := range []struct {
		do         func(x, r int64) (int64, api.Errno)
		x, r, want int64
	}{
		{Interest, 1000, 50000000000, 50},
		{Interest, -1000, 50000000000, -50},
		{Interest, 1000, -50000000000, -50},
		{Interest, 1000, 1, 0},
		{Interest, api.Unit, 1, 1},
		{Interest, api.Unit, -1, -1},
		{Interest, 1000, api.MinRate, -990},
		{Interest, api.Unit, api.MinRate + 1, api.MinRate + 1},
		{Interest, 1000, api.MaxRate, 10000},
		{Interest, api.Unit, api.MaxRate - 1, api.MaxRate - 1},
		{Interest, api.MaxMoney, api.MaxRate, 100000000000000}, // a product that leaves 64 bits
		{Interest, most, api.Unit, most},
		{Interest, least, api.Unit, least},
		{Interest, most, api.MinRate, -9131138316486228049},
		{Interest, least, api.MinRate, 9131138316486228050},
		{Grow, 1000, 50000000000, 1050},
		{Grow, -1000, 50000000000, -1050},
		{Grow, 1000, -50000000000, 950},
		{Grow, 1000, 1, 1000},
		{Grow, api.Unit, 1, api.Unit + 1},
		{Grow, api.Unit, -1, api.Unit - 1},
		{Grow, 1000, api.MinRate, 10},
		{Grow, 1000, api.MaxRate, 11000},
		{Grow, api.MaxMoney, api.MaxRate, 110000000000000},
		{Grow, most, api.MinRate, 92233720368547758},
		{Grow, least, api.MinRate, -92233720368547758},
		{Discount, 1050, 50000000000, 1000},
		{Discount, -1050, 50000000000, -1000},
		{Discount, 950, -50000000000, 1000},
		{Discount, 1000, 1, 1000},
		{Discount, api.Unit, 1, api.Unit - 1},
		{Discount, api.Unit, -1, api.Unit + 1},
		{Discount, 1000, api.MinRate, 100000},
		{Discount, 11000, api.MaxRate, 1000},
		{Discount, api.MaxMoney, api.MinRate, 1000000000000000},
		{Discount, most, api.MaxRate, 838488366986797801},
		{Discount, least, api.MaxRate, -838488366986797801},
	} {
		if n, e := x.do(x.x, x.r); n != x.want || e != api.OK {
			t.Errorf("%d: %d at %d: %d, %d; want %d, OK", i, x.x, x.r, n, e, x.want)
		}
	}
}

// P3.1: what lies exactly between two whole numbers goes to the even one, above 0 and below.
func TestBetween(t *testing.T) {
	for i, x := range []struct {
		do      func(x, r int64) (int64, api.Errno)
		r, x, n int64
	}{
		{Interest, half, 1, 0}, {Interest, half, 3, 2}, {Interest, half, 5, 2}, {Interest, half, 7, 4},
		{Interest, half, most, 1 << 62}, {Interest, half, -most, -1 << 62},
		{Interest, 50000000000, 10, 0}, {Interest, 50000000000, 30, 2},
		{Interest, -half, 1, 0}, {Interest, -half, 3, -2}, {Interest, -half, 5, -2},
		{Grow, half, 1, 2}, {Grow, half, 3, 4}, {Grow, half, 5, 8}, {Grow, half, 7, 10},
		{Grow, -half, 1, 0}, {Grow, -half, 3, 2}, {Grow, -half, 5, 2},
		{Discount, api.Unit, 1, 0}, {Discount, api.Unit, 3, 2}, {Discount, api.Unit, 5, 2}, {Discount, api.Unit, 7, 4},
	} {
		if n, e := x.do(x.x, x.r); n != x.n || e != api.OK {
			t.Errorf("%d: %d at %d: %d, %d; want %d, OK", i, x.x, x.r, n, e, x.n)
		}
		if n, e := x.do(-x.x, x.r); n != -x.n || e != api.OK {
			t.Errorf("%d: %d at %d: %d, %d; want %d, OK", i, -x.x, x.r, n, e, -x.n)
		}
	}
}

// P3.1: just within 64 bits, and one beyond.
func TestOver(t *testing.T) {
	for i, x := range []struct {
		do         func(x, r int64) (int64, api.Errno)
		x, r, want int64
		e          api.Errno
	}{
		{Interest, 922337203685477580, api.MaxRate, 9223372036854775800, api.OK},
		{Interest, 922337203685477581, api.MaxRate, 0, api.ErrOver},
		{Interest, -922337203685477580, api.MaxRate, -9223372036854775800, api.OK},
		{Interest, -922337203685477581, api.MaxRate, 0, api.ErrOver},
		{Interest, most, api.Unit + 1, 0, api.ErrOver},
		{Interest, least, api.Unit + 1, 0, api.ErrOver},
		{Interest, most, api.MaxRate, 0, api.ErrOver},
		{Interest, least, api.MaxRate, 0, api.ErrOver},
		{Grow, 838488366986797800, api.MaxRate, 9223372036854775800, api.OK},
		{Grow, 838488366986797801, api.MaxRate, 0, api.ErrOver},
		{Grow, -838488366986797800, api.MaxRate, -9223372036854775800, api.OK},
		{Grow, -838488366986797801, api.MaxRate, 0, api.ErrOver},
		{Grow, most, 1, 0, api.ErrOver},
		{Grow, least, 1, 0, api.ErrOver},
		{Grow, most, api.MaxRate, 0, api.ErrOver},
		{Discount, 92233720368547758, api.MinRate, 9223372036854775800, api.OK},
		{Discount, 92233720368547759, api.MinRate, 0, api.ErrOver},
		{Discount, -92233720368547758, api.MinRate, -9223372036854775800, api.OK},
		{Discount, -92233720368547759, api.MinRate, 0, api.ErrOver},
		{Discount, most, -1, 0, api.ErrOver},
		{Discount, least, -1, 0, api.ErrOver},
		{Discount, least, api.MinRate, 0, api.ErrOver},
	} {
		if n, e := x.do(x.x, x.r); n != x.want || e != x.e {
			t.Errorf("%d: %d at %d: %d, %d; want %d, %d", i, x.x, x.r, n, e, x.want, x.e)
		}
	}
}

// P3.1 against numbers of any size: amounts by rates at which something turns, and random ones of all widths.
func TestBig(t *testing.T) {
	for _, x := range amounts() {
		for _, r := range rates() {
			checkSlow(t, x, r)
		}
	}
	r := rand.New(rand.NewSource(1))
	for range 50000 {
		checkSlow(t, someNumber(r), someRate(r))
	}
}

// P3.1, P3.2: a rate that may not be is told first, whatever else there is: ahead of what would be too great, and ahead of a product of 0.
func TestWrongRates(t *testing.T) {
	for _, r := range wrongRates() {
		for _, x := range amounts() {
			for i, do := range []func(x, r int64) (int64, api.Errno){Interest, Grow, Discount} {
				if n, e := do(x, r); n != 0 || e != api.ErrArg {
					t.Errorf("%d: %d at %d: %d, %d; want 0, ErrArg", i, x, r, n, e)
				}
			}
		}
		for _, n := range []int{math.MinInt, -1, 0, 1, 2, api.MaxPeriods, api.MaxPeriods + 1, math.MaxInt} {
			if x, e := Power(r, n); x != 0 || e != api.ErrArg {
				t.Errorf("Power of %d, %d: %d, %d; want 0, ErrArg", r, n, x, e)
			}
		}
	}
}

// P3.2 Power: no period, one, and as many as there may be; each step is rounded, so the last of these are not the nearest to the true power.
func TestPowerNamed(t *testing.T) {
	for _, x := range []struct {
		r    int64
		n    int
		want int64
		e    api.Errno
	}{
		{100000000000, 2, 1210000000000, api.OK},
		{100000000000, 3, 1331000000000, api.OK},
		{0, 0, api.Unit, api.OK},
		{0, 1, api.Unit, api.OK},
		{0, api.MaxPeriods, api.Unit, api.OK},
		{1, api.MaxPeriods, 1000000000600, api.OK},
		{-1, api.MaxPeriods, 999999999400, api.OK},
		{api.MinRate, 0, api.Unit, api.OK},
		{api.MinRate, 1, 10000000000, api.OK},
		{api.MinRate + 1, 1, 10000000001, api.OK},
		{api.MinRate, 6, 1, api.OK},
		{api.MinRate, 7, 0, api.OK},
		{api.MinRate, api.MaxPeriods, 0, api.OK},
		{api.MaxRate, 0, api.Unit, api.OK},
		{api.MaxRate, 1, 11000000000000, api.OK},
		{api.MaxRate - 1, 1, 10999999999999, api.OK},
		{api.MaxRate, 6, 1771561000000000000, api.OK},
		{api.MaxRate, 7, 0, api.ErrOver},
		{api.MaxRate, api.MaxPeriods, 0, api.ErrOver},
		{27089169194, api.MaxPeriods, 9223372034491204898, api.OK},
		{27089169195, api.MaxPeriods - 1, 8980108364975220987, api.OK},
		{27089169195, api.MaxPeriods, 0, api.ErrOver},
		{333333333333, 5, 4213991769543, api.OK},
		{5000000000, api.MaxPeriods, 19935955423576, api.OK},
		{-100000000000, api.MaxPeriods, 4, api.OK},
	} {
		if n, e := Power(x.r, x.n); n != x.want || e != x.e {
			t.Errorf("Power of %d, %d: %d, %d; want %d, %d", x.r, x.n, n, e, x.want, x.e)
		}
	}
}

// P3.2 Power: periods below 0 and above MaxPeriods.
func TestWrongPeriods(t *testing.T) {
	for _, r := range rates() {
		for _, n := range []int{-1, -2, -api.MaxPeriods, math.MinInt32, math.MinInt, api.MaxPeriods + 1, api.MaxPeriods + 2, math.MaxInt32, math.MaxInt} {
			if x, e := Power(r, n); x != 0 || e != api.ErrArg {
				t.Errorf("Power of %d, %d: %d, %d; want 0, ErrArg", r, n, x, e)
			}
		}
	}
}

// P3.2 Power: Unit, grown one behind the other, at all numbers of periods; once too great, always too great.
func TestPowerSteps(t *testing.T) {
	r := rand.New(rand.NewSource(2))
	l := rates()
	for range 100 {
		l = append(l, someRate(r))
	}
	for _, r := range l {
		want, wantE := int64(api.Unit), api.OK
		for n := 0; n <= api.MaxPeriods; n++ {
			if x, e := Power(r, n); x != want || e != wantE {
				t.Fatalf("Power of %d, %d: %d, %d; want %d, %d", r, n, x, e, want, wantE)
			}
			if wantE == api.OK {
				want, wantE = slow(want, api.Unit+r, api.Unit)
			}
		}
	}
}

// P3.2 Part: of whatever rate, those that may not be too.
func TestPartNamed(t *testing.T) {
	for _, x := range []struct {
		r, of, all, want int64
		e                api.Errno
	}{
		{120000000000, 30, 360, 10000000000, api.OK},
		{-120000000000, 30, 360, -10000000000, api.OK},
		{120000000000, 720, 360, 240000000000, api.OK},
		{100, 31, 365, 8, api.OK},
		{api.MinRate, 1, 12, -82500000000, api.OK},
		{api.MinRate - 1, 1, 1, api.MinRate - 1, api.OK},
		{api.MaxRate + 1, 1, 1, api.MaxRate + 1, api.OK},
		{api.MaxRate, 3652058, 365, 100056383561643836, api.OK}, // a product that leaves 64 bits
		{5, 0, 360, 0, api.OK},
		{least, 0, 1, 0, api.OK},
		{most, 0, most, 0, api.OK},
		{0, most, 1, 0, api.OK},
		{0, 0, 1, 0, api.OK},
		{5, 7, 1, 35, api.OK},
		{most, 1, 1, most, api.OK},
		{least, 1, 1, least, api.OK},
		{most, most, most, most, api.OK},
		{least, most, most, least, api.OK},
		{1, most, 1, most, api.OK},
		{-1, most, 1, -most, api.OK},
		{1, 1, most, 0, api.OK},
		{1, 1, 2, 0, api.OK}, // between two whole numbers, from here on
		{3, 1, 2, 2, api.OK},
		{1, 5, 2, 2, api.OK},
		{-1, 1, 2, 0, api.OK},
		{-3, 1, 2, -2, api.OK},
		{-1, 5, 2, -2, api.OK},
		{most, 1, 2, 1 << 62, api.OK},
		{most, 2, 1, 0, api.ErrOver},
		{least, 2, 1, 0, api.ErrOver},
		{most, most, most - 1, 0, api.ErrOver},
		{most, most, 1, 0, api.ErrOver},
		{least, most, 1, 0, api.ErrOver},
	} {
		if n, e := Part(x.r, x.of, x.all); n != x.want || e != x.e {
			t.Errorf("Part of %d, %d, %d: %d, %d; want %d, %d", x.r, x.of, x.all, n, e, x.want, x.e)
		}
	}
}

// P3.2 Part: of below 0, all 0 and below 0, one of them wrong or both, at any rate.
func TestWrongParts(t *testing.T) {
	rights, wrongs := []int64{1, 2, 360, most}, []int64{-1, -2, -360, least}
	for _, r := range append(amounts(), wrongRates()...) {
		for _, wrong := range wrongs {
			for _, all := range append([]int64{0, wrong}, rights...) {
				if n, e := Part(r, wrong, all); n != 0 || e != api.ErrArg {
					t.Errorf("Part of %d, %d, %d: %d, %d; want 0, ErrArg", r, wrong, all, n, e)
				}
			}
		}
		for _, of := range append([]int64{0}, rights...) {
			for _, all := range append([]int64{0}, wrongs...) {
				if n, e := Part(r, of, all); n != 0 || e != api.ErrArg {
					t.Errorf("Part of %d, %d, %d: %d, %d; want 0, ErrArg", r, of, all, n, e)
				}
			}
		}
	}
}

// P3.2 Part against numbers of any size.
func TestPartBig(t *testing.T) {
	r := rand.New(rand.NewSource(3))
	l := amounts()
	for i := range 50000 {
		rate, of, all := someNumber(r), someNumber(r)&most, someNumber(r)&most|1
		if i%2 == 0 {
			rate, of, all = l[r.Intn(len(l))], l[r.Intn(len(l))]&most, max(l[r.Intn(len(l))]&most, 1)
		}
		want, wantE := slow(rate, of, all)
		if n, e := Part(rate, of, all); n != want || e != wantE {
			t.Fatalf("Part of %d, %d, %d: %d, %d; want %d, %d", rate, of, all, n, e, want, wantE)
		}
	}
}

// P3.3: at the rate 0 all is as it was.
func TestRateZero(t *testing.T) {
	for _, x := range amounts() {
		if n, e := Interest(x, 0); n != 0 || e != api.OK {
			t.Errorf("Interest of %d at 0: %d, %d", x, n, e)
		}
		if n, e := Grow(x, 0); n != x || e != api.OK {
			t.Errorf("Grow of %d at 0: %d, %d", x, n, e)
		}
		if n, e := Discount(x, 0); n != x || e != api.OK {
			t.Errorf("Discount of %d at 0: %d, %d", x, n, e)
		}
	}
	for n := range api.MaxPeriods + 1 {
		if x, e := Power(0, n); x != api.Unit || e != api.OK {
			t.Errorf("Power of 0, %d: %d, %d", n, x, e)
		}
	}
}

// P3.3: of more there is more interest at a rate above 0 (no less, where the whole numbers are too far apart to tell), and no less is left of it.
func TestRises(t *testing.T) {
	r := rand.New(rand.NewSource(4))
	for i := range 100000 {
		few, rate := someNumber(r), someRate(r)
		many := someNumber(r)
		if i%2 == 0 {
			many = few + int64(r.Intn(100)) - 50 // close by, or far off by going round
		}
		few, many = min(few, many), max(few, many)
		left, e1 := Discount(few, rate)
		leftMore, e2 := Discount(many, rate)
		if e1 == api.OK && e2 == api.OK && left > leftMore {
			t.Fatalf("of %d at %d %d are left, of %d %d", few, rate, left, many, leftMore)
		}
		n, e1 := Interest(few, rate)
		m, e2 := Interest(many, rate)
		if rate <= 0 || e1 != api.OK || e2 != api.OK {
			continue
		}
		between := new(big.Int).Sub(big.NewInt(many), big.NewInt(few))
		told := between.Mul(between, big.NewInt(rate)).Cmp(big.NewInt(api.Unit)) > 0
		if n > m || told && n == m {
			t.Fatalf("of %d at %d there is %d, of %d %d", few, rate, n, many, m)
		}
	}
}

// P3.3: what grew at a rate of 0 or more, discounted, is what it was, or 1 beside it.
func TestThereAndBack(t *testing.T) {
	r := rand.New(rand.NewSource(5))
	check := func(x, rate int64) {
		grown, e := Grow(x, rate)
		if e != api.OK {
			return
		}
		if n, e := Discount(grown, rate); n < x-1 && x != least || n > x+1 && x != most || e != api.OK {
			t.Fatalf("%d at %d grew to %d, and that is worth %d, %d", x, rate, grown, n, e)
		}
	}
	for _, rate := range rates() {
		if rate < 0 {
			continue
		}
		for _, x := range amounts() {
			check(x, rate)
		}
	}
	for range 100000 {
		check(someNumber(r), max(someRate(r), 0))
	}
}

// P1: every call ends and none panics, at all edges.
func TestTotal(t *testing.T) {
	l := append(append(amounts(), rates()...), wrongRates()...)
	for _, a := range l {
		May(a)
		for _, b := range l {
			Interest(a, b)
			Grow(a, b)
			Discount(a, b)
			Power(a, int(b))
			for _, c := range []int64{least, -1, 0, 1, 2, most} {
				Part(a, b, c)
				Part(a, c, b)
			}
		}
	}
}
