package value

import (
	"math"
	"math/big"
	"math/rand"
	"slices"
	"testing"

	"lombard/api"
)

const (
	unit  = api.Unit
	tenth = api.Unit / 10
	rich  = api.MaxMoney
	room  = api.MaxPeriods
	least = math.MinInt64
	most  = math.MaxInt64
)

// wrongAmounts are beyond -MaxMoney to MaxMoney: one beyond, and far; a thousand times some of them would go round to what is within.
func wrongAmounts() []int64 {
	return []int64{rich + 1, -rich - 1, rich + 2, 2 * rich, 1000 * rich, -1000 * rich, 1 << 61, 1<<61 + 1, -1 << 61, 1 << 62, -1 << 62, least, least + 1, most - 1, most}
}

// wrongRates are beyond MinRate to MaxRate; -Unit among them, at which there is nothing to divide by.
func wrongRates() []int64 {
	return []int64{api.MinRate - 1, api.MaxRate + 1, -unit, -unit - 1, -unit + 1, -2 * unit, 1 << 62, -1 << 62, least, least + 1, most - 1, most, most - unit + 1}
}

// rates may be: both bounds, 0, and those beside them; some at which halves come about, and some ordinary ones.
func rates() []int64 {
	return []int64{api.MinRate, api.MinRate + 1, -unit / 2, -tenth, -1, 0, 1, unit / 200, tenth / 2, tenth, unit / 4, unit, api.MaxRate - 1, api.MaxRate}
}

func repeat(n int64, times int) []int64 {
	return slices.Repeat([]int64{n}, times)
}

// row is lists one behind the other, in new memory.
func row(lists ...[]int64) []int64 {
	return slices.Concat(lists...)
}

func negative(l []int64) []int64 {
	turned := make([]int64, len(l))
	for i, n := range l {
		turned[i] = -n
	}
	return turned
}

// slowDiscount is layer 3's, in numbers of any size: to the nearer one, to the even one of two.
func slowDiscount(x *big.Int, r int64) *big.Int {
	by := new(big.Int).Add(big.NewInt(unit), big.NewInt(r))
	n, rest := new(big.Int).DivMod(new(big.Int).Mul(x, big.NewInt(unit)), by, new(big.Int))
	half := rest.Lsh(rest, 1).Cmp(by)
	if half > 0 || half == 0 && n.Bit(0) == 1 {
		n.Add(n, big.NewInt(1))
	}
	return n
}

func slowCheck(l []int64, r int64) api.Errno {
	if len(l) > 600 {
		return api.ErrFull
	}
	for _, n := range append([]int64{0}, l...) {
		if n < -10000000000000 || n > 10000000000000 || r < -990000000000 || r > 10000000000000 {
			return api.ErrArg
		}
	}
	return api.OK
}

// slowAll is P9.1 word by word, in numbers of any size, of amounts so many times as great.
func slowAll(l []int64, r, times int64) ([]int64, api.Errno) {
	if e := slowCheck(l, r); e != api.OK {
		return nil, e
	}
	bound := new(big.Int).Lsh(big.NewInt(1), 62)
	worth := new(big.Int)
	all := []int64{0}
	for _, n := range slices.Backward(l) {
		sum := new(big.Int).Mul(big.NewInt(n), big.NewInt(times))
		sum.Add(sum, worth)
		worth = slowDiscount(sum, r)
		if !sum.IsInt64() || worth.CmpAbs(bound) > 0 {
			return nil, api.ErrOver
		}
		all = append(all, worth.Int64())
	}
	slices.Reverse(all)
	return all, api.OK
}

func slowFirst(l []int64, r, times int64) (int64, api.Errno) {
	all, e := slowAll(l, r, times)
	if e != api.OK {
		return 0, e
	}
	return all[0], e
}

// told is a list in short, for a test that fails.
func told(l []int64) []int64 {
	return l[:min(len(l), 12)]
}

func checkAll(t *testing.T, l []int64, r int64, want []int64, wantE api.Errno) {
	t.Helper()
	if all, e := All(l, r); !slices.Equal(all, want) || e != wantE {
		t.Fatalf("All of %d: %v at %d: %v, %d; want %v, %d", len(l), told(l), r, told(all), e, told(want), wantE)
	}
}

func checkOf(t *testing.T, l []int64, r int64, want int64, wantE api.Errno) {
	t.Helper()
	if n, e := Of(l, r); n != want || e != wantE {
		t.Fatalf("Of %d: %v at %d: %d, %d; want %d, %d", len(l), told(l), r, n, e, want, wantE)
	}
}

func checkFine(t *testing.T, l []int64, r int64, want int64, wantE api.Errno) {
	t.Helper()
	if n, e := Fine(l, r); n != want || e != wantE {
		t.Fatalf("Fine of %d: %v at %d: %d, %d; want %d, %d", len(l), told(l), r, n, e, want, wantE)
	}
}

func checkChange(t *testing.T, l []int64, r, s, want int64, wantE api.Errno) {
	t.Helper()
	if n, e := Change(l, r, s); n != want || e != wantE {
		t.Fatalf("Change of %d: %v from %d to %d: %d, %d; want %d, %d", len(l), told(l), r, s, n, e, want, wantE)
	}
}

// checkRefused is for an error that all calls have.
func checkRefused(t *testing.T, l []int64, r int64, want api.Errno) {
	t.Helper()
	checkAll(t, l, r, nil, want)
	checkOf(t, l, r, 0, want)
	checkFine(t, l, r, 0, want)
	checkChange(t, l, r, r, 0, want)
}

// checkSlow holds the calls of one rate against P9.1 word by word.
func checkSlow(t *testing.T, l []int64, r int64) {
	t.Helper()
	want, wantE := slowAll(l, r, 1)
	checkAll(t, l, r, want, wantE)
	first, firstE := slowFirst(l, r, 1)
	checkOf(t, l, r, first, firstE)
	fine, fineE := slowFirst(l, r, 1000)
	checkFine(t, l, r, fine, fineE)
}

// slowChange is P9.1's of Change; a difference that is no number of 64 bits is too great.
func slowChange(l []int64, r, s int64) (int64, api.Errno) {
	from, e := slowFirst(l, r, 1)
	if e != api.OK {
		return 0, e
	}
	to, e := slowFirst(l, s, 1)
	if e != api.OK {
		return 0, e
	}
	n := new(big.Int).Sub(big.NewInt(to), big.NewInt(from))
	if !n.IsInt64() {
		return 0, api.ErrOver
	}
	return n.Int64(), api.OK
}

// someAmount may be; of any width, so that small ones come too.
func someAmount(r *rand.Rand) int64 {
	n := r.Int63n(rich+1) >> r.Intn(44)
	if r.Intn(2) == 0 {
		return -n
	}
	return n
}

// someRate may be; half of them are near 0, as rates are.
func someRate(r *rand.Rand) int64 {
	switch r.Intn(4) {
	case 0, 1:
		return r.Int63n(unit/5) - tenth
	case 2:
		return rates()[r.Intn(len(rates()))]
	}
	return api.MinRate + r.Int63n(api.MaxRate-api.MinRate+1)
}

func someAmounts(r *rand.Rand, up int) []int64 {
	l := make([]int64, r.Intn(up+1))
	for i := range l {
		l[i] = someAmount(r)
	}
	return l
}

// noneBelow makes amounts of 0 or more.
func noneBelow(l []int64) []int64 {
	for i, n := range l {
		l[i] = max(n, -n)
	}
	return l
}

// P9.1 All, Of: worked out by hand; the document's examples first.
func TestNamed(t *testing.T) {
	for _, x := range []struct {
		l    []int64
		r    int64
		want []int64
	}{
		{[]int64{105}, tenth / 2, []int64{100, 0}},
		{[]int64{10, 110}, tenth, []int64{100, 100, 0}},
		{nil, tenth, []int64{0}},
		{[]int64{0}, tenth, []int64{0, 0}},
		{[]int64{1}, 0, []int64{1, 0}},
		{[]int64{1, 2, 3}, 0, []int64{6, 5, 3, 0}},
		{[]int64{1, -2, 3, -4}, 0, []int64{-2, -3, -1, -4, 0}},
		{[]int64{0, 0, 1331}, tenth, []int64{1000, 1100, 1210, 0}},
		{[]int64{1331, 0, 0}, tenth, []int64{1210, 0, 0, 0}},
		{[]int64{-110}, tenth, []int64{-100, 0}},
		{[]int64{-10, -110}, tenth, []int64{-100, -100, 0}},
		{[]int64{110, -121}, tenth, []int64{0, -110, 0}},
		{[]int64{90}, -tenth, []int64{100, 0}},
		{[]int64{0, 81}, -tenth, []int64{100, 90, 0}},
		{[]int64{-9, 81}, -tenth, []int64{90, 90, 0}},
		{[]int64{1, 1}, api.MinRate, []int64{10100, 100, 0}},
		{[]int64{1, -1}, api.MinRate, []int64{-9900, -100, 0}},
		{[]int64{11, 121}, api.MaxRate, []int64{2, 11, 0}},
		{[]int64{rich}, 0, []int64{rich, 0}},
		{[]int64{-rich}, 0, []int64{-rich, 0}},
		{[]int64{rich - 1}, 0, []int64{rich - 1, 0}},
		{[]int64{1 - rich}, 0, []int64{1 - rich, 0}},
		{[]int64{rich}, 1, []int64{rich - 10, 0}},
		{[]int64{rich}, -1, []int64{rich + 10, 0}},
		{[]int64{rich}, api.MinRate, []int64{100 * rich, 0}},
		{[]int64{-rich}, api.MinRate, []int64{-100 * rich, 0}},
		{[]int64{rich}, api.MinRate + 1, []int64{999999999900000, 0}},
		{[]int64{11}, api.MaxRate, []int64{1, 0}},
		{[]int64{rich}, api.MaxRate, []int64{909090909091, 0}},
		{[]int64{rich}, api.MaxRate - 1, []int64{909090909091, 0}},
	} {
		checkAll(t, x.l, x.r, x.want, api.OK)
		checkOf(t, x.l, x.r, x.want[0], api.OK)
	}
}

// P9.1: halves go to the even one, and each period is rounded, not the whole.
func TestBetween(t *testing.T) {
	for _, x := range []struct {
		l    []int64
		r    int64
		want []int64
	}{
		{[]int64{1}, unit, []int64{0, 0}},
		{[]int64{3}, unit, []int64{2, 0}},
		{[]int64{5}, unit, []int64{2, 0}},
		{[]int64{7}, unit, []int64{4, 0}},
		{[]int64{1, 1}, unit, []int64{0, 0, 0}},       // 0.75 in truth
		{[]int64{1, 3}, unit, []int64{2, 2, 0}},       // 1.25
		{[]int64{0, 2, 1}, unit, []int64{0, 1, 0, 0}}, // 0.625
		{[]int64{0, 2, 3}, unit, []int64{1, 2, 2, 0}}, // 0.875
		{[]int64{1}, -600000000000, []int64{2, 0}},
		{[]int64{3}, -600000000000, []int64{8, 0}},
		{[]int64{0, 1}, -600000000000, []int64{5, 2, 0}}, // 6.25
		{[]int64{1, 1}, -600000000000, []int64{8, 2, 0}}, // 8.75
	} {
		checkAll(t, x.l, x.r, x.want, api.OK)
		checkOf(t, x.l, x.r, x.want[0], api.OK)
		checkAll(t, negative(x.l), x.r, negative(x.want), api.OK)
		checkOf(t, negative(x.l), x.r, -x.want[0], api.OK)
	}
}

// P9.1 Fine: worked out by hand; halves of thousandths go to the even one, and each period is rounded.
func TestFineNamed(t *testing.T) {
	for _, x := range []struct {
		l       []int64
		r, want int64
	}{
		{nil, 0, 0},
		{nil, api.MinRate, 0},
		{[]int64{0, 0}, api.MinRate, 0},
		{[]int64{1}, 0, 1000},
		{[]int64{1}, tenth, 909},
		{[]int64{105}, tenth / 2, 100000},
		{[]int64{10, 110}, tenth, 100000},
		{[]int64{1, 1}, tenth, 1735},       // 909 and 1000, discounted: 1735.45
		{[]int64{0, 1}, unit, 250},         // where Of is 0
		{[]int64{0, 0, 0, 1}, unit, 62},    // 62.5
		{[]int64{0, 0, 0, 3}, unit, 188},   // 187.5
		{[]int64{0, 0, 0, 0, 1}, unit, 31}, // 31.25 in truth, and of 62
		{[]int64{0, 0, 0, 0, 9}, unit, 281},
		{[]int64{1}, 2200000000000, 312}, // 312.5
		{[]int64{3}, 2200000000000, 938}, // 937.5
		{[]int64{0, 1}, 2200000000000, 98},
		{[]int64{1}, api.MaxRate, 91},
		{[]int64{1}, api.MinRate, 100000},
		{[]int64{1, 1}, api.MinRate, 10100000},
		{[]int64{rich}, 0, 1000 * rich},
		{[]int64{rich - 1}, 0, 1000*rich - 1000},
		{[]int64{rich}, 1, 9999999999990000},
		{[]int64{rich}, -1, 10000000000010000},
		{[]int64{rich}, api.MinRate, 100000 * rich},
		{[]int64{rich, -rich}, 0, 0},
	} {
		checkFine(t, x.l, x.r, x.want, api.OK)
		checkFine(t, negative(x.l), x.r, -x.want, api.OK)
	}
}

// P9.1, rule 3: no amounts are worth 0, nil or empty, and refused as any others at a wrong rate.
func TestNone(t *testing.T) {
	for _, l := range [][]int64{nil, {}, make([]int64, 0, 5), []int64{most, least}[:0]} {
		for _, r := range rates() {
			checkAll(t, l, r, []int64{0}, api.OK)
			checkOf(t, l, r, 0, api.OK)
			checkFine(t, l, r, 0, api.OK)
			for _, s := range rates() {
				checkChange(t, l, r, s, 0, api.OK)
			}
		}
		for _, r := range wrongRates() {
			checkRefused(t, l, r, api.ErrArg)
		}
	}
}

// P9.1: all rates that may be, at their bounds too.
func TestRates(t *testing.T) {
	for _, r := range rates() {
		for _, l := range [][]int64{{0}, {1}, {-1}, {rich}, {-rich}, {rich - 1}, {1 - rich}, {rich, rich}, {rich, -rich}, {0, 0, 7}, {12345, -678, 90}} {
			if _, e := Of(l, r); e != api.OK {
				t.Errorf("Of %v at %d: %d", l, r, e)
			}
			checkSlow(t, l, r)
		}
	}
}

// P9.1 ErrFull: as many amounts as there may be, and one more.
func TestCount(t *testing.T) {
	all := make([]int64, room+1)
	for i := range all {
		all[i] = int64(room - i)
	}
	checkAll(t, repeat(1, room), 0, all, api.OK)
	checkOf(t, repeat(1, room), 0, room, api.OK)
	checkFine(t, repeat(1, room), 0, 1000*room, api.OK)
	checkOf(t, repeat(rich, room), 0, room*rich, api.OK)
	checkOf(t, repeat(-rich, room), 0, -room*rich, api.OK)
	for _, r := range rates() {
		for _, n := range []int64{0, 1, -1, rich, -rich} {
			checkSlow(t, repeat(n, room-1), r)
			checkSlow(t, repeat(n, room), r)
			checkRefused(t, repeat(n, room+1), r, api.ErrFull)
			checkRefused(t, repeat(n, room+2), r, api.ErrFull)
		}
	}
	checkRefused(t, make([]int64, 1<<20), 0, api.ErrFull)
}

// P9.1: ErrFull is told first, whatever amounts and rates there are besides.
func TestFullFirst(t *testing.T) {
	for _, r := range append(wrongRates(), rates()...) {
		for _, wrong := range append(wrongAmounts(), 0) {
			for _, at := range []int{0, 1, room - 1, room} {
				l := make([]int64, room+1)
				l[at] = wrong
				checkRefused(t, l, r, api.ErrFull)
			}
			checkRefused(t, repeat(wrong, room+5), r, api.ErrFull)
		}
	}
	checkChange(t, make([]int64, room+1), 0, api.MaxRate+1, 0, api.ErrFull)
}

// P9.1 ErrArg: an amount that may not be, at each place of short lists and of the longest one.
func TestWrongAmounts(t *testing.T) {
	for _, wrong := range wrongAmounts() {
		for _, length := range []int{1, 2, 3, 7, room} {
			for at := range length {
				l := repeat(5, length)
				l[at] = wrong
				checkRefused(t, l, 0, api.ErrArg)
			}
		}
		for _, r := range append(wrongRates(), rates()...) {
			checkRefused(t, []int64{1, wrong, 1}, r, api.ErrArg)
			checkRefused(t, repeat(wrong, room), r, api.ErrArg)
		}
	}
}

// P9.1 ErrArg: a rate that may not be, whatever the amounts come to.
func TestWrongRates(t *testing.T) {
	for _, r := range wrongRates() {
		for _, l := range [][]int64{{0}, {1}, {-1}, {rich, -rich}, repeat(0, room), repeat(rich, room), repeat(-rich, room)} {
			checkRefused(t, l, r, api.ErrArg)
		}
	}
}

// P9.1: ErrArg is told ahead of what is too great, though that is met first from behind.
func TestArgFirst(t *testing.T) {
	for _, wrong := range wrongAmounts() {
		l := row([]int64{wrong}, repeat(rich, 20))
		checkRefused(t, l[1:], api.MinRate, api.ErrOver)
		checkRefused(t, l, api.MinRate, api.ErrArg)
	}
}

// P9.1 ErrOver of worths: just 2^62, and one beyond, above 0 and below. Only rates below 0 bring amounts of their own size so far, and there nothing takes back what is too great in the middle.
func TestFar(t *testing.T) {
	for _, x := range []struct {
		l    []int64
		r    int64
		want int64 // 0: too great
	}{
		{row(repeat(0, 19), []int64{1 << 42}), -unit / 2, 1 << 62},
		{row([]int64{-1}, repeat(0, 18), []int64{1 << 42}), -unit / 2, 1<<62 - 2},
		{row([]int64{1}, repeat(0, 18), []int64{1 << 42}), -unit / 2, 0}, // 2^62 and 2
		{[]int64{-708, 7874499356286, 7874499356286}, -988000000046, 1 << 62},
		{[]int64{-707, 7874499356286, 7874499356286}, -988000000046, 0},
		{[]int64{-3584, 7874499248440, 7874499248440}, -988000000101, 0}, // 2^62 and 1
		{[]int64{-3585, 7874499248440, 7874499248440}, -988000000101, 1<<62 - 82},
		{[]int64{3879, 0, 4611686018427}, api.MinRate, 4611686018427387900},
		{[]int64{3880, 0, 4611686018427}, api.MinRate, 0},
		// in the middle
		{row(repeat(0, 20), []int64{1 << 42}), -unit / 2, 0},
		{row([]int64{-rich}, repeat(0, 19), []int64{1 << 42}), -unit / 2, 0},
		{row([]int64{-rich, 1}, repeat(0, 18), []int64{1 << 42}), -unit / 2, 0},
		{[]int64{-rich, -708, 7874499356286, 7874499356286}, -988000000046, 0},
		{[]int64{-rich, -3584, 7874499248440, 7874499248440}, -988000000101, 0},
		// a discount that isn't within 64 bits, in the first period and far ahead of it
		{[]int64{0, 0, 0, rich}, api.MinRate, 0},
		{[]int64{0, 0, rich}, api.MinRate, 0},
		{[]int64{0, rich}, api.MinRate, 10000 * rich},
		{[]int64{-rich, -rich, 0, 0, 0, rich}, api.MinRate, 0},
		{repeat(rich, room), api.MinRate, 0},
		{repeat(rich, room), -unit / 2, 0},
		{row(repeat(0, room-1), []int64{rich}), -tenth, 0},
		{row(repeat(0, room-1), []int64{5}), -tenth, 0}, // of 1 it stays 1

	} {
		for _, sign := range []int64{1, -1} {
			l := x.l
			if sign < 0 {
				l = negative(l)
			}
			if x.want == 0 {
				checkRefused(t, l, x.r, api.ErrOver)
				continue
			}
			checkOf(t, l, x.r, sign*x.want, api.OK)
			checkSlow(t, l, x.r)
		}
	}
}

// P9.1 ErrOver of Fine, where Of isn't near its bounds: just 2^62, and one beyond, in the first period.
func TestFineFar(t *testing.T) {
	for _, x := range []struct {
		l    []int64
		r    int64
		want int64 // 0: too great
	}{
		{[]int64{5918186, 283796056769, 283796047299}, -960000000281, 1 << 62},
		{[]int64{5918187, 283796056769, 283796047299}, -960000000281, 0},
		{[]int64{9360421, 283796061307, 283796046330}, -960000000065, 0}, // 2^62 and 1
		{row(repeat(rich, 461), []int64{1686018427387}), 0, 4611686018427387000},
		{row(repeat(rich, 461), []int64{1686018427388}), 0, 0},
		{row([]int64{1686018427388}, repeat(rich, 461)), 0, 0},
		{repeat(rich, room), 0, 0},
		{repeat(rich, 461), 0, 461000 * rich},
		{repeat(rich, 462), 0, 0},
		{[]int64{0, 46116860184}, api.MinRate, 461168601840000000},
		{[]int64{0, 0, 4611686018}, api.MinRate, 4611686018000000000},
		{[]int64{0, 0, 4611686019}, api.MinRate, 0},
		// a discount that isn't within 64 bits
		{[]int64{0, 0, rich / 100}, api.MinRate, 0},
		{[]int64{0, 0, 0, rich / 1000}, api.MinRate, 0},
	} {
		for _, sign := range []int64{1, -1} {
			l := x.l
			if sign < 0 {
				l = negative(l)
			}
			if _, e := Of(l, x.r); e != api.OK {
				t.Errorf("Of %v at %d: %d", told(l), x.r, e)
			}
			if x.want == 0 {
				checkFine(t, l, x.r, 0, api.ErrOver)
				continue
			}
			checkFine(t, l, x.r, sign*x.want, api.OK)
		}
	}
}

// P9.1 ErrOver of Fine: just 2^62, and one beyond, in the middle alone; the first worth is within the bounds again.
func TestFineMiddle(t *testing.T) {
	for _, x := range []struct {
		l    []int64
		r    int64
		want int64 // 0: too great
	}{
		{row([]int64{-rich, 2410912436034}, repeat(rich, 461), []int64{rich - 222}), 10000000, 4601640002027367630},
		{row([]int64{-rich, 2410912435818}, repeat(rich, 461), []int64{rich - 5}), 10000000, 0}, // 2^62 and 1
		{row([]int64{-1}, repeat(rich, 461), []int64{1686018427386}), 0, 4611686018427385000},
		{row([]int64{-1}, repeat(rich, 461), []int64{1686018427388}), 0, 0},
		{row(repeat(-rich, 100), repeat(rich, 461)), 0, 361000 * rich},
		{row(repeat(-rich, 100), repeat(rich, 462)), 0, 0},
	} {
		checkSlow(t, x.l, x.r)
		e := api.OK
		if x.want == 0 {
			e = api.ErrOver
		}
		checkFine(t, x.l, x.r, x.want, e)
		checkFine(t, negative(x.l), x.r, -x.want, e)
	}
}

// P9.1: the bounds of 2^62 are for worths; a sum on the way is held to 64 bits alone, and no amount takes a worth beyond these.
func TestSumBeyondWorths(t *testing.T) {
	const r = 900000000
	behind, e := Fine(repeat(rich, 595), r)
	if e != api.OK || behind+1000*rich <= 1<<62 {
		t.Fatal(behind, e)
	}
	checkFine(t, repeat(rich, 596), r, 1<<62-475243710148098, api.OK)
	checkFine(t, repeat(-rich, 596), r, 475243710148098-1<<62, api.OK)
	checkFine(t, repeat(rich, 597), r, 0, api.ErrOver)
}

// P9.1: what is too great in Of need not be so in Fine, which is reckoned for itself: here it comes to 0 on the way, and Of to 1.
func TestFineAlone(t *testing.T) {
	l := row(repeat(0, 88), []int64{-1, -1, 1})
	checkOf(t, l, -382000000000, 0, api.ErrOver)
	checkFine(t, l, -382000000000, 0, api.OK)
	if n, e := Of(l[1:], -382000000000); n < 1<<61 || e != api.OK {
		t.Error(n, e)
	}
}

// P9.1 Change: the worth at the second rate, less that at the first.
func TestChangeNamed(t *testing.T) {
	for _, x := range []struct {
		l          []int64
		r, s, want int64
	}{
		{[]int64{110}, tenth, 0, 10},
		{[]int64{110}, 0, tenth, -10},
		{[]int64{-110}, tenth, 0, -10},
		{[]int64{-110}, 0, tenth, 10},
		{[]int64{110}, tenth, tenth, 0},
		{[]int64{10, 110}, tenth, 0, 20},
		{[]int64{1}, 0, api.MinRate, 99},
		{[]int64{1}, api.MinRate, 0, -99},
		{[]int64{1}, 0, api.MaxRate, -1},
		{[]int64{11}, api.MinRate, api.MaxRate, -1099},
		{[]int64{rich}, 0, 1, -10},
		{[]int64{rich}, 0, -1, 10},
		{[]int64{3}, 0, unit, -1}, // 1.5 goes to 2
		{[]int64{5}, 0, unit, -3}, // 2.5 goes to 2
		{row(repeat(0, 19), []int64{1 << 42}), 0, -unit / 2, 1<<62 - 1<<42},
		{row(repeat(0, 19), []int64{1 << 42}), -unit / 2, 0, 1<<42 - 1<<62},
	} {
		checkChange(t, x.l, x.r, x.s, x.want, api.OK)
	}
}

// P9.1 Change: the error at the first rate comes ahead of the one at the second.
func TestChangeErrors(t *testing.T) {
	high := []int64{0, 0, 0, rich} // too great at MinRate alone
	for _, x := range []struct {
		l    []int64
		r, s int64
		e    api.Errno
	}{
		{high, api.MinRate, 0, api.ErrOver},
		{high, 0, api.MinRate, api.ErrOver},
		{high, api.MinRate, api.MinRate, api.ErrOver},
		{high, api.MinRate, api.MaxRate + 1, api.ErrOver},
		{high, api.MaxRate + 1, api.MinRate, api.ErrArg},
		{high, api.MinRate - 1, 0, api.ErrArg},
		{high, 0, api.MinRate - 1, api.ErrArg},
		{high, least, most, api.ErrArg},
		{high, api.MinRate, least, api.ErrOver},
		{high, most, api.MinRate, api.ErrArg},
		{[]int64{rich + 1}, 0, 0, api.ErrArg},
		{[]int64{rich + 1, 0, 0, 0, rich}, api.MinRate, api.MinRate, api.ErrArg},
		{repeat(rich, room+1), api.MinRate, least, api.ErrFull},
		{repeat(rich, room+1), least, api.MinRate, api.ErrFull},
	} {
		checkChange(t, x.l, x.r, x.s, 0, x.e)
		checkChange(t, negative(x.l), x.r, x.s, 0, x.e)
	}
	for _, r := range wrongRates() {
		checkChange(t, []int64{110}, r, 0, 0, api.ErrArg)
		checkChange(t, []int64{110}, 0, r, 0, api.ErrArg)
	}
}

// P9.1 Change: from the one bound to the other it is 2^63, which is no number of 64 bits; the other way it is -2^63.
func TestChangeFar(t *testing.T) {
	const low, high = -unit / 2, -unit * 3 / 4
	l := row(repeat(0, 19), []int64{-1<<43 - 1<<22, 1<<41 + 1<<21})
	checkOf(t, l, low, -1<<62, api.OK)
	checkOf(t, l, high, 1<<62, api.OK)
	checkChange(t, l, low, high, 0, api.ErrOver)
	checkChange(t, l, high, low, least, api.OK)
	checkChange(t, negative(l), low, high, least, api.OK)
	checkChange(t, negative(l), high, low, 0, api.ErrOver)
	// 4 above the one bound, and just at the other
	l[0], l[1] = 4, -1
	checkChange(t, l, low, high, most-3, api.OK)
	checkChange(t, l, high, low, 3-most, api.OK)
}

// P9.1: all edges together, against the chapter's own words.
func TestEdges(t *testing.T) {
	amounts := []int64{-rich - 1, -rich, 1 - rich, -1, 0, 1, rich - 1, rich, rich + 1}
	for _, r := range append(rates(), api.MinRate-1, api.MaxRate+1) {
		for _, a := range amounts {
			checkSlow(t, []int64{a}, r)
			for _, b := range amounts {
				checkSlow(t, []int64{a, b}, r)
				for _, c := range amounts {
					checkSlow(t, []int64{a, b, c}, r)
				}
			}
		}
	}
}

// P9.1: any amounts and rates that may be, against the chapter's own words.
func TestSlow(t *testing.T) {
	r := rand.New(rand.NewSource(1))
	for range 20000 {
		l := someAmounts(r, 12)
		from, to := someRate(r), someRate(r)
		checkSlow(t, l, from)
		want, wantE := slowChange(l, from, to)
		checkChange(t, l, from, to, want, wantE)
	}
	for range 300 {
		l := someAmounts(r, room)
		checkSlow(t, l, someRate(r))
		checkSlow(t, noneBelow(l), r.Int63n(unit/100)-unit/200)
	}
}

// P9.2: at the rate 0 they are worth what they are all together, then what is left of them.
func TestNoRate(t *testing.T) {
	r := rand.New(rand.NewSource(2))
	for range 2000 {
		l := someAmounts(r, 40)
		want := make([]int64, len(l)+1)
		for i := range l {
			for j := range i + 1 {
				want[j] += l[i]
			}
		}
		checkAll(t, l, 0, want, api.OK)
		checkOf(t, l, 0, want[0], api.OK)
		checkFine(t, l, 0, 1000*want[0], api.OK)
	}
}

// P9.2: Fine is a thousand times Of, but for what was rounded on the way: half of 1 and of a thousandth in each period, discounted.
func TestThousand(t *testing.T) {
	r := rand.New(rand.NewSource(3))
	held := 0
	for range 5000 {
		l, at := someAmounts(r, 30), someRate(r)
		of, e := Of(l, at)
		fine, fineE := Fine(l, at)
		if e != api.OK || fineE != api.OK {
			continue
		}
		held++
		bound := new(big.Int)
		for range l {
			bound = slowDiscount(bound, at)
			bound.Add(bound, big.NewInt(502))
		}
		apart := new(big.Int).Mul(big.NewInt(of), big.NewInt(-1000))
		apart.Add(apart, big.NewInt(fine))
		if apart.CmpAbs(bound) > 0 {
			t.Fatalf("%v at %d: %d, and %d finely", l, at, of, fine)
		}
	}
	if held < 1000 {
		t.Error("few to hold: ", held)
	}
}

// P9.2: amounts of 0 or more are worth no more at a greater rate, at no time; and never less than 0.
func TestFalls(t *testing.T) {
	r := rand.New(rand.NewSource(4))
	for range 5000 {
		l := noneBelow(someAmounts(r, 20))
		low, high := someRate(r), someRate(r)
		if r.Intn(3) == 0 {
			high = min(low+1+r.Int63n(5), api.MaxRate)
		}
		low, high = min(low, high), max(low, high)
		more, e := All(l, low)
		fineMore, fineE := Fine(l, low)
		less, lessE := All(l, high)
		fineLess, fineLessE := Fine(l, high)
		if e == api.OK && lessE != api.OK || fineE == api.OK && fineLessE != api.OK {
			t.Fatalf("%v at %d: %d, %d; at %d: %d, %d", l, low, e, fineE, high, lessE, fineLessE)
		}
		for i := range more {
			if less[i] > more[i] || less[i] < 0 {
				t.Fatalf("%v at %d: %v; at %d: %v", l, low, more, high, less)
			}
		}
		if fineE == api.OK && (fineLess > fineMore || fineLess < 0) {
			t.Fatalf("%v finely at %d: %d; at %d: %d", l, low, fineMore, high, fineLess)
		}
		if n, e := Change(l, low, high); e == api.OK && n > 0 {
			t.Fatalf("%v from %d to %d: %d", l, low, high, n)
		}
	}
}

// P9.2: of a later start they are worth what All tells there.
func TestLaterStart(t *testing.T) {
	r := rand.New(rand.NewSource(5))
	for range 2000 {
		l, at := someAmounts(r, 20), someRate(r)
		all, e := All(l, at)
		if e != api.OK {
			continue
		}
		if len(all) != len(l)+1 {
			t.Fatalf("%d of %d amounts", len(all), len(l))
		}
		for i := range all {
			checkOf(t, l[i:], at, all[i], api.OK)
			checkAll(t, l[i:], at, all[i:], api.OK)
		}
	}
}

// Rule 4: the amounts are as they were, their spare room too, whether a call fails or not.
func TestUnchanged(t *testing.T) {
	r := rand.New(rand.NewSource(6))
	for range 5000 {
		l, at := someAmounts(r, 12), someRate(r)
		if len(l) > 0 && r.Intn(3) == 0 {
			l[r.Intn(len(l))] = int64(r.Uint64())
		}
		if r.Intn(5) == 0 {
			at = int64(r.Uint64())
		}
		whole := append(l, -1, -2, -3)
		was := slices.Clone(whole)
		l = whole[:len(l)]
		Of(l, at)
		All(l, at)
		Fine(l, at)
		Change(l, at, 0)
		Change(l, 0, at)
		if !slices.Equal(whole, was) {
			t.Fatalf("%v, want %v", whole, was)
		}
	}
	for _, length := range []int{room, room + 1} {
		l := repeat(rich, length)
		checkSlow(t, l, 0)
		if !slices.Equal(l, repeat(rich, length)) {
			t.Error("the amounts changed")
		}
	}
}

// Rule 4: an answer is new memory, its spare room too: to change one changes neither the amounts nor another answer; and it doesn't change with the amounts.
func TestAnswersNew(t *testing.T) {
	for _, length := range []int{0, 1, 2, 7, room} {
		whole := repeat(11, length+3)
		was := slices.Clone(whole)
		l := whole[:length]
		first, e := All(l, tenth)
		if e != api.OK {
			t.Fatal(e)
		}
		wasFirst := slices.Clone(first)
		second, _ := All(l, tenth)
		second = second[:cap(second)]
		for i := range second {
			second[i] = -7
		}
		if !slices.Equal(first, wasFirst) || !slices.Equal(whole, was) {
			t.Errorf("%v, %v; want %v, %v", first, whole, wasFirst, was)
		}
		for i := range whole {
			whole[i] = -5
		}
		if !slices.Equal(first, wasFirst) {
			t.Errorf("%v, want %v", first, wasFirst)
		}
		copy(whole, was)
		checkAll(t, l, tenth, wasFirst, api.OK)
	}
}

// Rule 5: what was called ahead, and failed or not, changes no answer.
func TestNothingKept(t *testing.T) {
	l := []int64{10, 110}
	for _, r := range append(wrongRates(), rates()...) {
		All(repeat(rich, room), r)
		Fine(repeat(most, 3), r)
		checkAll(t, l, tenth, []int64{100, 100, 0}, api.OK)
		checkOf(t, l, tenth, 100, api.OK)
		checkFine(t, l, tenth, 100000, api.OK)
		checkChange(t, l, tenth, 0, 20, api.OK)
	}
}

// The generic fold goes from behind, over items and to results of any types, tells all results, and stops at the first error.
func TestFoldBack(t *testing.T) {
	texts, e := foldBack([]int{1, 2, 3}, "end", func(n int, behind string) (string, api.Errno) {
		return string(rune('0'+n)) + behind, api.OK
	})
	if !slices.Equal(texts, []string{"123end", "23end", "3end", "end"}) || e != api.OK {
		t.Error(texts, e)
	}
	ends, e := foldBack(nil, 7, func(string, int) (int, api.Errno) { return 0, api.ErrNone })
	if !slices.Equal(ends, []int{7}) || e != api.OK {
		t.Error(ends, e)
	}
	var met []int
	none, e := foldBack([]int{1, 2, 3, 4}, 0, func(n, behind int) (int, api.Errno) {
		met = append(met, n)
		if n == 2 {
			return 9, api.ErrState
		}
		return n + behind, api.OK
	})
	if none != nil || e != api.ErrState || !slices.Equal(met, []int{4, 3, 2}) {
		t.Error(none, e, met)
	}
}

// P1: any numbers, any lengths: each call ends, and beside an error there is nothing.
func TestAnyArguments(t *testing.T) {
	r := rand.New(rand.NewSource(7))
	any64 := func() int64 { return int64(r.Uint64()) >> r.Intn(64) }
	edges := append(append(wrongAmounts(), wrongRates()...), 0, 1, -1, rich, -rich, api.MinRate, api.MaxRate)
	some := func() int64 {
		if r.Intn(2) == 0 {
			return edges[r.Intn(len(edges))]
		}
		return any64()
	}
	for range 30000 {
		l := make([]int64, r.Intn(6))
		for i := range l {
			l[i] = some()
		}
		from, to := some(), some()
		checkSlow(t, l, from)
		want, wantE := slowChange(l, from, to)
		checkChange(t, l, from, to, want, wantE)
	}
}
