package count

import (
	"math"
	"math/big"
	"math/rand"
	"testing"
	"time"

	"lombard/api"
	"lombard/day"
)

const (
	least = math.MinInt
	most  = math.MaxInt
	tenth = api.Unit / 10
)

// bases are the ways there are, by how many days their years have.
var bases = map[int]int{Thirty: 360, Act360: 360, Act365: 365}

// wrongWays are beside those there are, and far off: some of them right ones, if bits were cut off.
func wrongWays() []int {
	return []int{0, 4, 5, -1, -2, -3, 30, 360, 365, 1<<8 + 1, 1<<32 + 1, 1<<32 + 2, 1<<32 + 3, -1 << 31, least, least + 1, least + 2, least + 3, most - 1, most}
}

// wrongDays are one beyond the bounds, and far beyond.
func wrongDays() []int {
	return []int{api.FirstDay - 1, api.FirstDay - 2, -365, -api.LastDay, api.LastDay + 1, api.LastDay + 2, 1 << 31, -1 << 31, 1<<32 + 1, 1 << 62, -1 << 62, least, least + 1, most - 1, most}
}

// wrongRates may not be.
func wrongRates() []int64 {
	return []int64{api.MinRate - 1, api.MaxRate + 1, -api.Unit, 2 * api.MaxRate, math.MinInt64, math.MinInt64 + 1, math.MaxInt64 - 1, math.MaxInt64}
}

// rates may be: 0, 1, the bounds, and those beside each.
func rates() []int64 {
	return []int64{api.MinRate, api.MinRate + 1, -tenth, -1, 0, 1, 2, tenth, api.Unit - 1, api.Unit, api.Unit + 1, api.MaxRate - 1, api.MaxRate}
}

// amounts are 0, the bounds of those that are handed in, the bounds of 64 bits, and those beside each.
func amounts() []int64 {
	return []int64{
		0, 1, -1, 1000, -1000, api.Unit,
		api.MaxMoney - 1, api.MaxMoney, api.MaxMoney + 1, -api.MaxMoney - 1, -api.MaxMoney, -api.MaxMoney + 1,
		math.MinInt64, math.MinInt64 + 1, math.MaxInt64 - 1, math.MaxInt64,
	}
}

// on is a date's number, by the library's calendar.
func on(year, month, day int) int {
	first := time.Date(1, 1, 1, 0, 0, 0, 0, time.UTC)
	at := time.Date(year, time.Month(month), day, 0, 0, 0, 0, time.UTC)
	return int((at.Unix()-first.Unix())/(24*60*60)) + 1
}

// edgeDays are the ends of months, of leap years and others, and the first and last days there are.
func edgeDays() []int {
	l := []int{api.FirstDay, api.FirstDay + 1, api.LastDay - 1, api.LastDay}
	for _, year := range []int{1, 4, 100, 400, 1900, 2000, 2019, 2020, 2021, 9996, 9999} {
		for month := 1; month <= 12; month++ {
			for _, d := range []int{1, 15, 28, 29, 30, 31} {
				if d <= day.Last(year, month) {
					l = append(l, on(year, month, d))
				}
			}
		}
	}
	return l
}

func someDay(r *rand.Rand) int {
	return api.FirstDay + r.Intn(api.LastDay)
}

// someInt is of any width.
func someInt(r *rand.Rand) int {
	return int(r.Uint64()) >> r.Intn(64)
}

func checkDays(t *testing.T, a, b, way, want int) {
	t.Helper()
	if n, e := Days(a, b, way); n != want || e != api.OK {
		t.Fatalf("Days of %d, %d, %d: %d, %d; want %d, OK", a, b, way, n, e, want)
	}
}

func checkNoDays(t *testing.T, a, b, way int, want api.Errno) {
	t.Helper()
	if n, e := Days(a, b, way); n != 0 || e != want {
		t.Errorf("Days of %d, %d, %d: %d, %d; want 0, %d", a, b, way, n, e, want)
	}
}

func checkAccrue(t *testing.T, x, r int64, a, b, way int, want int64, wantE api.Errno) {
	t.Helper()
	if n, e := Accrue(x, r, a, b, way); n != want || e != wantE {
		t.Fatalf("Accrue of %d, %d, %d, %d, %d: %d, %d; want %d, %d", x, r, a, b, way, n, e, want, wantE)
	}
}

// slow is a times b by c to the nearer one, the even one of two, in numbers of any size.
func slow(a, b, c int64) *big.Int {
	exact := new(big.Rat).SetFrac(new(big.Int).Mul(big.NewInt(a), big.NewInt(b)), big.NewInt(c))
	below := new(big.Int).Div(exact.Num(), exact.Denom())
	rest := new(big.Rat).Sub(exact, new(big.Rat).SetInt(below))
	if d := rest.Cmp(big.NewRat(1, 2)); d > 0 || d == 0 && below.Bit(0) == 1 {
		below.Add(below, big.NewInt(1))
	}
	return below
}

// slowAccrue is P5.2 word by word, where Days is OK.
func slowAccrue(x, r int64, a, b, days, basis int) (int64, api.Errno) {
	if b < a || r < api.MinRate || r > api.MaxRate {
		return 0, api.ErrArg
	}
	part := slow(r, int64(days), int64(basis))
	if part.Cmp(big.NewInt(api.MinRate)) < 0 || part.Cmp(big.NewInt(api.MaxRate)) > 0 {
		return 0, api.ErrArg
	}
	n := slow(x, part.Int64(), api.Unit)
	if !n.IsInt64() {
		return 0, api.ErrOver
	}
	return n.Int64(), api.OK
}

// P5.1 Basis: the ways there are, and others.
func TestBasis(t *testing.T) {
	if Thirty != 1 || Act360 != 2 || Act365 != 3 {
		t.Errorf("the ways are %d, %d, %d", Thirty, Act360, Act365)
	}
	for way, want := range bases {
		if n := Basis(way); n != want {
			t.Errorf("Basis of %d: %d, want %d", way, n, want)
		}
	}
	for _, way := range wrongWays() {
		if n := Basis(way); n != 0 {
			t.Errorf("Basis of %d: %d, want 0", way, n)
		}
	}
}

// P5.1 Days: the document's example, and others worked out by hand; there and back.
func TestNamed(t *testing.T) {
	for _, x := range []struct {
		a, b, flat, exact int
	}{
		{on(2020, 1, 31), on(2020, 3, 1), 31, 30},
		{on(2020, 1, 1), on(2020, 1, 1), 0, 0},
		{on(2020, 1, 31), on(2020, 1, 31), 0, 0},
		{on(2020, 1, 1), on(2020, 1, 2), 1, 1},
		{on(2020, 1, 29), on(2020, 1, 30), 1, 1},
		{on(2020, 1, 30), on(2020, 1, 31), 0, 1},
		{on(2020, 1, 31), on(2020, 2, 1), 1, 1},
		{on(2020, 1, 30), on(2020, 2, 1), 1, 2},
		{on(2020, 1, 28), on(2020, 1, 31), 2, 3},
		{on(2020, 4, 30), on(2020, 5, 1), 1, 1},
		{on(2020, 4, 30), on(2020, 5, 31), 30, 31},
		{on(2020, 5, 31), on(2020, 6, 30), 30, 30},
		{on(2020, 7, 31), on(2020, 8, 31), 30, 31},
		{on(2020, 1, 15), on(2020, 2, 15), 30, 31},
		{on(2020, 2, 15), on(2020, 3, 15), 30, 29},
		{on(2019, 2, 15), on(2019, 3, 15), 30, 28},
		{on(2020, 2, 28), on(2020, 2, 29), 1, 1},
		{on(2020, 2, 28), on(2020, 3, 1), 3, 2},
		{on(2020, 2, 29), on(2020, 3, 1), 2, 1},
		{on(2019, 2, 28), on(2019, 3, 1), 3, 1},
		{on(1900, 2, 28), on(1900, 3, 1), 3, 1},
		{on(2000, 2, 28), on(2000, 3, 1), 3, 2},
		{on(2020, 2, 29), on(2020, 3, 31), 31, 31},
		{on(2019, 2, 28), on(2019, 3, 31), 32, 31},
		{on(2020, 1, 31), on(2020, 2, 29), 29, 29},
		{on(2019, 1, 31), on(2019, 2, 28), 28, 28},
		{on(2019, 12, 31), on(2020, 1, 1), 1, 1},
		{on(2019, 1, 1), on(2020, 1, 1), 360, 365},
		{on(2020, 1, 1), on(2021, 1, 1), 360, 366},
		{on(2019, 1, 1), on(2019, 12, 31), 359, 364},
		{on(2019, 12, 31), on(2020, 12, 31), 360, 366},
		{on(2020, 2, 29), on(2021, 2, 28), 359, 365},
		{on(2019, 2, 28), on(2020, 2, 29), 361, 366},
		{on(2019, 11, 20), on(2020, 2, 5), 75, 77},
		{on(1, 1, 1), on(1, 1, 2), 1, 1},
		{on(9999, 12, 30), on(9999, 12, 31), 0, 1},
		{on(1, 1, 1), on(9999, 12, 30), 3599639, 3652057},
		{on(1, 1, 1), on(9999, 12, 31), 3599639, 3652058},
		{on(1, 1, 2), on(9999, 12, 31), 3599638, 3652057},
	} {
		checkDays(t, x.a, x.b, Thirty, x.flat)
		checkDays(t, x.a, x.b, Act360, x.exact)
		checkDays(t, x.a, x.b, Act365, x.exact)
		checkDays(t, x.b, x.a, Thirty, -x.flat)
		checkDays(t, x.b, x.a, Act360, -x.exact)
		checkDays(t, x.b, x.a, Act365, -x.exact)
	}
}

// P5.1 Days: every day there is, one behind the other. From a day to the next one there is 1; of Thirty none to a 31st, and to the first of a month what its last one lacks of 30, too.
func TestEveryDay(t *testing.T) {
	at := time.Date(1, 1, 1, 0, 0, 0, 0, time.UTC)
	flat := 0
	for n := api.FirstDay; n <= api.LastDay; n++ {
		checkDays(t, api.FirstDay, n, Thirty, flat)
		checkDays(t, api.FirstDay, n, Act360, n-1)
		checkDays(t, n, api.FirstDay, Act365, 1-n)
		next := at.AddDate(0, 0, 1)
		switch next.Day() {
		case 1:
			flat += 31 - min(at.Day(), 30)
		case 31:
		default:
			flat++
		}
		at = next
	}
}

// slowFlat is P5.1's own words of Thirty, by the library's calendar.
func slowFlat(a, b int) int {
	first := time.Date(1, 1, 1, 0, 0, 0, 0, time.UTC)
	from, to := first.AddDate(0, 0, a-1), first.AddDate(0, 0, b-1)
	dayOf := func(at time.Time) int {
		if at.Day() == 31 {
			return 30
		}
		return at.Day()
	}
	return 360*(to.Year()-from.Year()) + 30*int(to.Month()-from.Month()) + dayOf(to) - dayOf(from)
}

// P5.1 Days: each end of a month with each other one, both ways round; and any two days.
func TestPairs(t *testing.T) {
	check := func(a, b int) {
		t.Helper()
		checkDays(t, a, b, Thirty, slowFlat(a, b))
		checkDays(t, a, b, Act360, b-a)
		checkDays(t, a, b, Act365, b-a)
	}
	l := edgeDays()
	for _, a := range l {
		for _, b := range l {
			check(a, b)
		}
	}
	r := rand.New(rand.NewSource(5))
	for range 50000 {
		check(someDay(r), someDay(r))
	}
}

// P5.1 Days: no such day, in one place or both; no such way is told first, whatever the days are.
func TestWrongDays(t *testing.T) {
	rights := []int{api.FirstDay, api.FirstDay + 1, 737455, api.LastDay - 1, api.LastDay}
	for _, wrong := range wrongDays() {
		for way := range bases {
			for _, other := range append(wrongDays(), rights...) {
				checkNoDays(t, wrong, other, way, api.ErrDate)
				checkNoDays(t, other, wrong, way, api.ErrDate)
			}
		}
	}
	for _, way := range wrongWays() {
		for _, a := range append(wrongDays(), rights...) {
			for _, b := range append(wrongDays(), rights...) {
				checkNoDays(t, a, b, way, api.ErrArg)
			}
		}
	}
}

// P5.2 Accrue: worked out by hand.
func TestAccrueNamed(t *testing.T) {
	a := on(2020, 1, 1)
	end := on(2020, 1, 31)
	year := on(2021, 1, 1)
	for _, x := range []struct {
		x, r      int64
		a, b, way int
		want      int64
	}{
		{36000, tenth, a, a + 10, Act360, 100},
		{36500, tenth, a, a + 10, Act365, 100},
		{1200, tenth, a, a + 31, Thirty, 10},
		{1200, tenth, end, end + 30, Thirty, 10}, // to the first of March: 31 days of 360, 10.33
		{-36000, tenth, a, a + 10, Act360, -100},
		{36000, -tenth, a, a + 10, Act360, -100},
		{-36000, -tenth, a, a + 10, Act360, 100},
		{1000, tenth, a, year, Thirty, 100},
		{36000, tenth, a, year, Act360, 3660},
		{36500, tenth, a, year, Act365, 3660},
		{36000, tenth, end - 1, end, Thirty, 0}, // the 30th to the 31st
		{36000, tenth, end - 1, end, Act360, 10},
		{1000, 0, a, year, Act360, 0},
		{1000, api.Unit, a, a + 360, Act360, 1000},
		{api.Unit, api.Unit - 1, a, a + 360, Act360, api.Unit - 1},
		{api.Unit, api.Unit + 1, a, a + 365, Act365, api.Unit + 1},
		{1000, api.MinRate, a, a + 360, Act360, -990},
		{api.Unit, api.MinRate + 1, a, a + 360, Act360, api.MinRate + 1},
		{1000, api.MaxRate, a, a + 360, Act360, 10000},
		{api.Unit, api.MaxRate - 1, a, a + 365, Act365, api.MaxRate - 1},
		{api.MaxMoney, api.MaxRate, a, a + 365, Act365, 100000000000000},
		{-api.MaxMoney, api.MaxRate, a, a + 365, Act365, -100000000000000},
		{api.MaxMoney, api.MinRate, a, year, Thirty, -9900000000000},
		{api.MaxMoney, 1, api.FirstDay, api.LastDay, Thirty, 99990},  // 3599639 by 360 are 9998.997, as a rate 9999
		{api.MaxMoney, 1, api.FirstDay, api.LastDay, Act360, 101450}, // 3652058 by 360 are 10144.606
		{api.MaxMoney, 1, api.FirstDay, api.LastDay, Act365, 100060}, // 3652058 by 365 are 10005.638
		{math.MaxInt64, api.Unit, a, a + 360, Act360, math.MaxInt64},
		{math.MinInt64, api.Unit, a, a + 360, Act360, math.MinInt64},
		{math.MaxInt64, 0, api.FirstDay, api.LastDay, Act360, 0},
	} {
		checkAccrue(t, x.x, x.r, x.a, x.b, x.way, x.want, api.OK)
	}
}

// P5.2 Accrue: the rate's part is rounded ahead of the interest, and each of them to the even one of two that are as near.
func TestAccrueRounds(t *testing.T) {
	a := on(2020, 1, 1)
	for _, x := range []struct{ x, r, want int64 }{
		{2 * api.Unit, 1, 0}, // half of 1 is 0, though half of 2 would be 1
		{2 * api.Unit, 3, 4},
		{2 * api.Unit, 5, 4},
		{2 * api.Unit, -1, 0},
		{2 * api.Unit, -3, -4},
		{1, api.Unit, 0},
		{3, api.Unit, 2},
		{5, api.Unit, 2},
		{-1, api.Unit, 0},
		{-3, api.Unit, -2},
		{-5, api.Unit, -2},
	} {
		checkAccrue(t, x.x, x.r, a, a+180, Act360, x.want, api.OK)
	}
}

// P5.2 Accrue: the same day twice brings nothing, whatever may be.
func TestAccrueSameDay(t *testing.T) {
	for way := range bases {
		for _, n := range edgeDays() {
			checkAccrue(t, math.MaxInt64, api.MaxRate, n, n, way, 0, api.OK)
			checkAccrue(t, math.MinInt64, api.MinRate, n, n, way, 0, api.OK)
		}
	}
}

// P5.2 Accrue: a part that may still be, and the next one, that may not; that is told ahead of what is too great.
func TestAccrueParts(t *testing.T) {
	a := on(2019, 1, 1)
	end := on(2020, 12, 31)
	for _, x := range []struct {
		r         int64
		a, b, way int
		e         api.Errno
	}{
		{api.MaxRate, a, a + 360, Act360, api.OK},
		{api.MaxRate, a, a + 361, Act360, api.ErrArg},
		{api.MaxRate, a, a + 365, Act365, api.OK},
		{api.MaxRate, a, a + 366, Act365, api.ErrArg},
		{api.MaxRate, a, a + 365, Thirty, api.OK},
		{api.MaxRate, a, a + 366, Thirty, api.ErrArg},
		{api.MaxRate, end - 366, end, Thirty, api.OK},
		{api.MaxRate, end - 367, end, Thirty, api.OK}, // from the 30th to the 31st
		{api.MaxRate, end - 368, end, Thirty, api.ErrArg},
		{api.MinRate, a, a + 360, Act360, api.OK},
		{api.MinRate, a, a + 361, Act360, api.ErrArg},
		{api.MinRate, a, a + 365, Act365, api.OK},
		{api.MinRate, a, a + 366, Act365, api.ErrArg},
		{api.Unit, a, a + 3600, Act360, api.OK},
		{api.Unit, a, a + 3601, Act360, api.ErrArg},
		{api.Unit, a, a + 3650, Act365, api.OK},
		{api.Unit, a, a + 3651, Act365, api.ErrArg},
		{api.MaxRate, api.FirstDay, api.LastDay, Act360, api.ErrArg},
		{api.MinRate, api.FirstDay, api.LastDay, Act365, api.ErrArg},
		{985745571, api.FirstDay, api.LastDay, Act360, api.OK},     // 9999999995930.9
		{985745572, api.FirstDay, api.LastDay, Act360, api.ErrArg}, // 10000000006075.5
		{-97588811, api.FirstDay, api.LastDay, Act360, api.OK},     // -989999994230.7
		{-97588812, api.FirstDay, api.LastDay, Act360, api.ErrArg}, // -990000004375.3
	} {
		want := int64(0)
		if x.e == api.OK {
			want = slow(api.MaxMoney, slow(x.r, int64(slowDays(x.a, x.b, x.way)), int64(bases[x.way])).Int64(), api.Unit).Int64()
		}
		checkAccrue(t, api.MaxMoney, x.r, x.a, x.b, x.way, want, x.e)
		checkAccrue(t, 0, x.r, x.a, x.b, x.way, 0, x.e)
		if x.e == api.ErrArg {
			checkAccrue(t, math.MaxInt64, x.r, x.a, x.b, x.way, 0, x.e)
			checkAccrue(t, math.MinInt64, x.r, x.a, x.b, x.way, 0, x.e)
		}
	}
}

func slowDays(a, b, way int) int {
	if way == Thirty {
		return slowFlat(a, b)
	}
	return b - a
}

// P5.2 Accrue: interest just within 64 bits, and one beyond.
func TestAccrueOver(t *testing.T) {
	a := on(2019, 1, 1)
	for _, x := range []struct {
		x, r      int64
		a, b, way int
		want      int64
		e         api.Errno
	}{
		{922337203685477580, api.MaxRate, a, a + 360, Act360, 9223372036854775800, api.OK},
		{922337203685477581, api.MaxRate, a, a + 360, Act360, 0, api.ErrOver},
		{-922337203685477580, api.MaxRate, a, a + 365, Act365, -9223372036854775800, api.OK},
		{-922337203685477581, api.MaxRate, a, a + 365, Act365, 0, api.ErrOver},
		{math.MaxInt64, api.Unit, a, a + 360, Act360, math.MaxInt64, api.OK},
		{math.MaxInt64, api.Unit, a, a + 361, Act360, 0, api.ErrOver},
		{math.MinInt64, api.Unit, a, a + 365, Thirty, math.MinInt64, api.OK},
		{math.MinInt64, api.Unit, a, a + 366, Thirty, 0, api.ErrOver},
		{math.MaxInt64, api.Unit + 1, a, a + 365, Act365, 0, api.ErrOver},
	} {
		checkAccrue(t, x.x, x.r, x.a, x.b, x.way, x.want, x.e)
	}
}

// P5.2 Accrue: b ahead of a, by as little as a day, even where Thirty counts none between; at a rate of 0 and of an amount of 0, too.
func TestAccrueAhead(t *testing.T) {
	for way := range bases {
		for _, n := range edgeDays() {
			if n == api.FirstDay {
				continue
			}
			checkAccrue(t, 1000, tenth, n, n-1, way, 0, api.ErrArg)
			checkAccrue(t, 0, 0, n, n-1, way, 0, api.ErrArg)
			checkAccrue(t, 1000, tenth, n, api.FirstDay, way, 0, api.ErrArg)
		}
	}
	thirtieth := on(2020, 1, 30)
	checkDays(t, thirtieth+1, thirtieth, Thirty, 0)
	checkAccrue(t, 1000, tenth, thirtieth+1, thirtieth, Thirty, 0, api.ErrArg)
	checkAccrue(t, 1000, tenth, thirtieth, thirtieth+1, Thirty, 0, api.OK)
}

// P5.2 Accrue: a rate that may not be, though its part may, and though no day goes by.
func TestAccrueWrongRates(t *testing.T) {
	a := on(2019, 1, 1)
	for way := range bases {
		for _, r := range wrongRates() {
			for _, b := range []int{a - 1, a, a + 1, a + 31, a + 365, api.LastDay} {
				for _, x := range amounts() {
					checkAccrue(t, x, r, a, b, way, 0, api.ErrArg)
				}
			}
		}
	}
}

// P5.2 Accrue: Days' error is told first, no such way ahead of no such day, and both ahead of all that is wrong besides.
func TestAccrueFirstError(t *testing.T) {
	days := []int{api.FirstDay, 737455, api.LastDay}
	for _, r := range append(wrongRates(), 0, tenth, api.MaxRate) {
		for _, x := range []int64{0, 1000, math.MinInt64, math.MaxInt64} {
			for _, wrong := range wrongDays() {
				for _, other := range append(wrongDays(), days...) {
					for way := range bases {
						checkAccrue(t, x, r, wrong, other, way, 0, api.ErrDate)
						checkAccrue(t, x, r, other, wrong, way, 0, api.ErrDate)
					}
					for _, way := range []int{0, 4, -1, least, most} {
						checkAccrue(t, x, r, wrong, other, way, 0, api.ErrArg)
						checkAccrue(t, x, r, other, wrong, way, 0, api.ErrArg)
					}
				}
			}
		}
	}
	for _, way := range wrongWays() {
		for _, a := range days {
			for _, b := range days {
				checkAccrue(t, 1000, tenth, a, b, way, 0, api.ErrArg)
			}
		}
	}
}

// P5.2 Accrue against numbers of any size: amounts and rates at which something turns, and random ones of all widths.
func TestAccrueBig(t *testing.T) {
	check := func(x, r int64, a, b int) {
		t.Helper()
		for way, basis := range bases {
			want, e := slowAccrue(x, r, a, b, slowDays(a, b, way), basis)
			checkAccrue(t, x, r, a, b, way, want, e)
		}
	}
	a := on(2020, 1, 31)
	for _, x := range amounts() {
		for _, r := range append(rates(), wrongRates()...) {
			for _, b := range []int{a - 1, a, a + 1, a + 29, a + 30, a + 180, a + 365, a + 366, a + 3653} {
				check(x, r, a, b)
			}
			check(x, r, api.FirstDay, api.LastDay)
		}
	}
	r := rand.New(rand.NewSource(6))
	for range 20000 {
		a := someDay(r)
		b := min(a+r.Intn(1000)-50, api.LastDay)
		check(int64(someInt(r)), r.Int63n(2*api.Unit)-api.Unit/2, a, max(b, api.FirstDay))
		check(int64(someInt(r)), int64(someInt(r)), someDay(r), someDay(r))
	}
}

// P5.3: the other way round it is its negative; the first and the last of three days are as far from one another as both with the one between, in whatever order they are.
func TestDistances(t *testing.T) {
	r := rand.New(rand.NewSource(7))
	l := edgeDays()
	pick := func() int {
		if r.Intn(2) == 0 {
			return l[r.Intn(len(l))]
		}
		return someDay(r)
	}
	for range 100000 {
		a, b, c := pick(), pick(), pick()
		for way := range bases {
			there, e1 := Days(a, b, way)
			on, e2 := Days(b, c, way)
			if e1 != api.OK || e2 != api.OK {
				t.Fatalf("Days of %d, %d, %d, way %d: %d, %d", a, b, c, way, e1, e2)
			}
			checkDays(t, b, a, way, -there)
			checkDays(t, a, c, way, there+on)
			checkDays(t, a, a, way, 0)
		}
	}
}

// P5.3: a year of Thirty is 360, from whatever day that both years have; a month of it 30.
func TestFlatYear(t *testing.T) {
	for year := 1; year < 9999; year++ {
		for month := 1; month <= 12; month++ {
			for _, d := range []int{1, 15, 28, 29, 30, 31} {
				if d > day.Last(year, month) || d > day.Last(year+1, month) {
					continue
				}
				a := on(year, month, d)
				checkDays(t, a, on(year+1, month, d), Thirty, 360)
				if month < 12 && d <= day.Last(year, month+1) {
					checkDays(t, a, on(year, month+1, d), Thirty, 30)
				}
			}
		}
	}
}

// P1: every call ends and none panics, at arguments of all widths; beside an error there is nothing.
func TestTotal(t *testing.T) {
	r := rand.New(rand.NewSource(8))
	ways := append(wrongWays(), Thirty, Act360, Act365)
	for range 200000 {
		x, rate := int64(someInt(r)), int64(someInt(r))
		a, b, way := someInt(r), someInt(r), ways[r.Intn(len(ways))]
		n, e := Days(a, b, way)
		wantE := api.OK
		if bases[way] == 0 {
			wantE = api.ErrArg
		} else if min(a, b) < api.FirstDay || max(a, b) > api.LastDay {
			wantE = api.ErrDate
		}
		if e != wantE || e != api.OK && n != 0 {
			t.Fatalf("Days of %d, %d, %d: %d, %d; want %d", a, b, way, n, e, wantE)
		}
		want := int64(0)
		if e == api.OK {
			want, wantE = slowAccrue(x, rate, a, b, slowDays(a, b, way), bases[way])
		}
		checkAccrue(t, x, rate, a, b, way, want, wantE)
		if k := Basis(way); k != bases[way] {
			t.Fatalf("Basis of %d: %d", way, k)
		}
	}
}

// A way is found by a function that takes lists of anything: the first that is so, or none.
func TestFind(t *testing.T) {
	long := func(s string) bool { return len(s) > 2 }
	if s, ok := find([]string{"a", "bcd", "efg"}, long); s != "bcd" || !ok {
		t.Errorf("%q, %t", s, ok)
	}
	if s, ok := find([]string{"a", "bc"}, long); s != "" || ok {
		t.Errorf("%q, %t", s, ok)
	}
	if n, ok := find(nil, func(int) bool { return true }); n != 0 || ok {
		t.Errorf("%d, %t", n, ok)
	}
}
