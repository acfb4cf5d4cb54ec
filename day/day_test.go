package day

import (
	"math"
	"math/big"
	"math/rand"
	"testing"
	"time"

	"lombard/api"
)

const (
	least = math.MinInt
	most  = math.MaxInt
)

// lengths are those of the months of a year without a 29th of February.
var lengths = [...]int{31, 28, 31, 30, 31, 30, 31, 31, 30, 31, 30, 31}

// edgeYears are those at which a rule turns, by whether they have a 29th of February.
var edgeYears = map[int]bool{
	1: false, 2: false, 3: false, 4: true, 5: false, 96: true, 99: false, 100: false, 101: false, 104: true,
	200: false, 300: false, 396: true, 399: false, 400: true, 401: false, 404: true, 500: false, 800: true,
	1600: true, 1700: false, 1800: false, 1896: true, 1900: false, 1904: true, 1999: false, 2000: true, 2001: false,
	2004: true, 2026: false, 2100: false, 2400: true, 9600: true, 9900: false, 9996: true, 9998: false, 9999: false,
}

// wrongYears have no day: one beyond the bounds, and far beyond.
func wrongYears() []int {
	return []int{0, -1, -4, -100, -400, -9999, 10000, 10001, 10400, 1 << 31, -1 << 31, 1 << 40, 1 << 62, -1 << 62, least, least + 1, most - 1, most}
}

// wrongMonths are in no year.
func wrongMonths() []int {
	return []int{0, -1, -2, -11, -12, 13, 14, 24, 1 << 31, -1 << 31, 1 << 40, least, least + 1, most - 1, most}
}

// wrongDays are in no month.
func wrongDays() []int {
	return []int{0, -1, -28, -30, 32, 60, 365, 366, 1 << 31, -1 << 31, 1 << 40, least, least + 1, most - 1, most}
}

// checkPair holds a day's date and number against each other, both ways.
func checkPair(t *testing.T, d Date, n int) {
	t.Helper()
	if k, e := From(d); k != n || e != api.OK {
		t.Fatalf("From of %v: %d, %d; want %d, OK", d, k, e, n)
	}
	if x, e := To(n); x != d || e != api.OK {
		t.Fatalf("To of %d: %v, %d; want %v, OK", n, x, e, d)
	}
}

// checkNoDate: there is no such day.
func checkNoDate(t *testing.T, d Date) {
	t.Helper()
	if n, e := From(d); n != 0 || e != api.ErrDate {
		t.Errorf("From of %v: %d, %d; want 0, ErrDate", d, n, e)
	}
}

// P4.1 From, To, Weekday: days whose numbers are known.
func TestNamed(t *testing.T) {
	for _, x := range []struct {
		d       Date
		n, week int
	}{
		{Date{1, 1, 1}, 1, 0},
		{Date{1, 1, 2}, 2, 1},
		{Date{1, 2, 28}, 59, 2},
		{Date{1, 3, 1}, 60, 3},
		{Date{1, 12, 31}, 365, 0},
		{Date{4, 1, 1}, 1096, 3},
		{Date{4, 2, 28}, 1154, 5},
		{Date{4, 2, 29}, 1155, 6},
		{Date{4, 3, 1}, 1156, 0},
		{Date{4, 12, 31}, 1461, 4},
		{Date{100, 1, 1}, 36160, 4},
		{Date{100, 2, 28}, 36218, 6},
		{Date{100, 3, 1}, 36219, 0},
		{Date{100, 12, 31}, 36524, 4},
		{Date{400, 1, 1}, 145732, 5},
		{Date{400, 2, 28}, 145790, 0},
		{Date{400, 2, 29}, 145791, 1},
		{Date{400, 3, 1}, 145792, 2},
		{Date{400, 12, 31}, 146097, 6},
		{Date{1900, 1, 1}, 693596, 0},
		{Date{1900, 2, 28}, 693654, 2},
		{Date{1900, 3, 1}, 693655, 3},
		{Date{1900, 12, 31}, 693960, 0},
		{Date{1970, 1, 1}, 719163, 3},
		{Date{2000, 1, 1}, 730120, 5},
		{Date{2000, 2, 28}, 730178, 0},
		{Date{2000, 2, 29}, 730179, 1},
		{Date{2000, 3, 1}, 730180, 2},
		{Date{2000, 12, 31}, 730485, 6},
		{Date{2001, 1, 1}, 730486, 0},
		{Date{2001, 2, 28}, 730544, 2},
		{Date{2001, 3, 1}, 730545, 3},
		{Date{2001, 12, 31}, 730850, 0},
		{Date{2004, 2, 28}, 731639, 5},
		{Date{2004, 2, 29}, 731640, 6},
		{Date{2004, 3, 1}, 731641, 0},
		{Date{9999, 1, 1}, 3651695, 4},
		{Date{9999, 2, 28}, 3651753, 6},
		{Date{9999, 3, 1}, 3651754, 0},
		{Date{9999, 12, 30}, 3652058, 3},
		{Date{9999, 12, 31}, 3652059, 4},
	} {
		checkPair(t, x.d, x.n)
		if w := Weekday(x.n); w != x.week {
			t.Errorf("Weekday of %d: %d, want %d", x.n, w, x.week)
		}
	}
}

// P4.1 Leap: the years at which its rule turns, and numbers that are no years.
func TestLeap(t *testing.T) {
	for year, want := range edgeYears {
		if Leap(year) != want {
			t.Errorf("Leap of %d: %t", year, !want)
		}
	}
	for year, want := range map[int]bool{
		0: true, -1: false, -4: true, -100: false, -200: false, -400: true, -2000: true, -1900: false,
		10000: true, 10100: false, 10004: true, 10001: false,
		least: true, least + 1: false, least + 4: true, most: false, most - 3: true, most - 7: false, -9223372036854775600: true,
	} {
		if Leap(year) != want {
			t.Errorf("Leap of %d: %t", year, !want)
		}
	}
}

// P4.1 Last: each month of those years; no such year, no such month.
func TestLast(t *testing.T) {
	for year, leap := range edgeYears {
		for i, want := range lengths {
			if i == 1 && leap {
				want = 29
			}
			if n := Last(year, i+1); n != want {
				t.Errorf("Last of %d, %d: %d, want %d", year, i+1, n, want)
			}
		}
		for _, month := range wrongMonths() {
			if n := Last(year, month); n != 0 {
				t.Errorf("Last of %d, %d: %d, want 0", year, month, n)
			}
		}
	}
	for _, year := range wrongYears() {
		for month := range 14 {
			if n := Last(year, month); n != 0 {
				t.Errorf("Last of %d, %d: %d, want 0", year, month, n)
			}
		}
		for _, month := range wrongMonths() {
			if n := Last(year, month); n != 0 {
				t.Errorf("Last of %d, %d: %d, want 0", year, month, n)
			}
		}
	}
}

// P4.1 From: of each month of those years, the days ahead of the first and behind the last.
func TestMonthsEnds(t *testing.T) {
	for year, leap := range edgeYears {
		for i, last := range lengths {
			if i == 1 && leap {
				last = 29
			}
			for _, day := range []int{1, 28, last} {
				d := Date{year, i + 1, day}
				n, e := From(d)
				if e != api.OK {
					t.Fatalf("From of %v: %d", d, e)
				}
				checkPair(t, d, n)
			}
			checkNoDate(t, Date{year, i + 1, 0})
			for day := last + 1; day <= 33; day++ {
				checkNoDate(t, Date{year, i + 1, day})
			}
		}
	}
}

// P4.1 From: what is wrong in one place, in two, in all.
func TestNoSuchDay(t *testing.T) {
	years := append(wrongYears(), 1, 4, 1900, 2000, 2001, 9999)
	months := append(wrongMonths(), 1, 2, 3, 4, 12)
	days := append(wrongDays(), 1, 28, 29, 30, 31)
	for _, year := range years {
		for _, month := range months {
			for _, day := range days {
				d := Date{year, month, day}
				if !inCalendar(d) {
					checkNoDate(t, d)
				}
			}
		}
	}
	checkNoDate(t, Date{})
}

// inCalendar is P4.1's own words, by the list of lengths.
func inCalendar(d Date) bool {
	if d.Year < 1 || d.Year > 9999 || d.Month < 1 || d.Month > 12 || d.Day < 1 {
		return false
	}
	if d.Month == 2 && d.Day == 29 {
		return d.Year%400 == 0 || d.Year%4 == 0 && d.Year%100 != 0
	}
	return d.Day <= lengths[d.Month-1]
}

// P4.1 From: a wrong year or month isn't made good by the day, though the sum of their days, gone round or not, is a day's number.
func TestNoSumMakesGood(t *testing.T) {
	for _, target := range []int{api.FirstDay, 60, 730120, 730179, api.LastDay} {
		for _, year := range append(wrongYears(), 1, 1999, 2001, 9999) {
			first := wrapped(year)
			for _, month := range append(wrongMonths(), 1) {
				for _, days := range []int{0, 31, 334, 365, 366} {
					d := Date{year, month, target - first - days}
					if !inCalendar(d) {
						checkNoDate(t, d)
					}
				}
			}
		}
	}
}

// wrapped is how many days there are ahead of a year, whatever it is, cut to an int's bits.
func wrapped(year int) int {
	y := new(big.Int).Sub(big.NewInt(int64(year)), big.NewInt(1))
	sum := new(big.Int).Mul(y, big.NewInt(365))
	sum.Add(sum, new(big.Int).Quo(y, big.NewInt(4)))
	sum.Sub(sum, new(big.Int).Quo(y, big.NewInt(100)))
	sum.Add(sum, new(big.Int).Quo(y, big.NewInt(400)))
	return int(sum.And(sum, new(big.Int).SetUint64(math.MaxUint64)).Uint64())
}

// P4.1 To: the bounds belong to it, and nothing beyond.
func TestNoSuchNumber(t *testing.T) {
	for _, n := range []int{0, -1, -365, -146097, api.LastDay + 1, api.LastDay + 366, 1 << 31, -1 << 31, 1 << 40, 1 << 62, -1 << 62, least, least + 1, most - 1, most} {
		if d, e := To(n); d != (Date{}) || e != api.ErrDate {
			t.Errorf("To of %d: %v, %d; want none, ErrDate", n, d, e)
		}
	}
	checkPair(t, Date{1, 1, 1}, api.FirstDay)
	checkPair(t, Date{1, 1, 2}, api.FirstDay+1)
	checkPair(t, Date{9999, 12, 30}, api.LastDay-1)
	checkPair(t, Date{9999, 12, 31}, api.LastDay)
}

// P4.1 Weekday: 0, below 0, the least and the greatest number.
func TestWeekday(t *testing.T) {
	for n, want := range map[int]int{
		1: 0, 2: 1, 3: 2, 4: 3, 5: 4, 6: 5, 7: 6, 8: 0, 14: 6, 730120: 5,
		0: 6, -1: 5, -2: 4, -3: 3, -4: 2, -5: 1, -6: 0, -7: 6, -8: 5, -13: 0, -14: 6,
		least: 5, least + 1: 6, least + 2: 0, most: 6, most - 1: 5, most - 6: 0,
	} {
		if w := Weekday(n); w != want {
			t.Errorf("Weekday of %d: %d, want %d", n, w, want)
		}
	}
	r := rand.New(rand.NewSource(4))
	for range 20000 {
		n := int(r.Uint64()) >> r.Intn(64)
		exact := new(big.Int).Sub(big.NewInt(int64(n)), big.NewInt(1))
		if w, want := Weekday(n), int(exact.Mod(exact, big.NewInt(7)).Int64()); w != want {
			t.Fatalf("Weekday of %d: %d, want %d", n, w, want)
		}
	}
}

// next is P4.2's: the next one in the month, or the first of the next month.
func next(d Date) Date {
	if d.Day < Last(d.Year, d.Month) {
		return Date{d.Year, d.Month, d.Day + 1}
	}
	if d.Month < 12 {
		return Date{d.Year, d.Month + 1, 1}
	}
	return Date{d.Year + 1, 1, 1}
}

// P4.2: every day there is, from the first to the last, one behind the other, both ways; and by the library's calendar.
func TestEveryDay(t *testing.T) {
	d := Date{1, 1, 1}
	at := time.Date(1, 1, 1, 0, 0, 0, 0, time.UTC)
	for n := api.FirstDay; n <= api.LastDay; n++ {
		checkPair(t, d, n)
		if n%97 == 0 {
			year, month, day := at.AddDate(0, 0, n-1).Date()
			if d != (Date{year, int(month), day}) {
				t.Fatalf("day %d: %v; the library's calendar has %d-%d-%d", n, d, year, month, day)
			}
		}
		d = next(d)
	}
	if d != (Date{10000, 1, 1}) {
		t.Errorf("behind the last day: %v", d)
	}
}

// P4.2: 400 years are 146097 days, wherever they begin, and the weekdays come round with them.
func TestRound(t *testing.T) {
	for year := 1; year+400 <= 9999; year++ {
		for _, d := range []Date{{year, 1, 1}, {year, 2, 28}, {year, 3, 1}, {year, 12, 31}} {
			n, e := From(d)
			if e != api.OK {
				t.Fatalf("From of %v: %d", d, e)
			}
			checkPair(t, Date{year + 400, d.Month, d.Day}, n+146097)
			if Weekday(n) != Weekday(n+146097) {
				t.Fatalf("400 years behind %v is another day of the week", d)
			}
		}
	}
}

// P1: every call ends and none panics, at arguments of all widths; what From takes, To gives back.
func TestTotal(t *testing.T) {
	r := rand.New(rand.NewSource(1))
	some := func() int { return int(r.Uint64()) >> r.Intn(64) }
	for range 200000 {
		d := Date{some(), some(), some()}
		n, e := From(d)
		if inCalendar(d) != (e == api.OK) || e != api.OK && (n != 0 || e != api.ErrDate) {
			t.Fatalf("From of %v: %d, %d", d, n, e)
		}
		if e == api.OK {
			checkPair(t, d, n)
		}
		n = some()
		x, e := To(n)
		within := api.FirstDay <= n && n <= api.LastDay
		if within != (e == api.OK) || !within && (x != Date{} || e != api.ErrDate) {
			t.Fatalf("To of %d: %v, %d", n, x, e)
		}
		if w := Weekday(n); w < 0 || w > 6 {
			t.Fatalf("Weekday of %d: %d", n, w)
		}
		if l := Last(d.Year, d.Month); (l == 0) == inCalendar(Date{d.Year, d.Month, 1}) {
			t.Fatalf("Last of %d, %d: %d", d.Year, d.Month, l)
		}
		Leap(n)
	}
}

// Dates may be compared: alike in all places, and keys of a map.
func TestCompared(t *testing.T) {
	d, e := To(730120)
	if e != api.OK || d != (Date{2000, 1, 1}) || d == (Date{2000, 1, 2}) || d == (Date{2000, 2, 1}) || d == (Date{2001, 1, 1}) {
		t.Errorf("%v, %d", d, e)
	}
	if numbers := map[Date]int{{2000, 1, 1}: 730120}; numbers[d] != 730120 {
		t.Errorf("%v is no key", d)
	}
}
