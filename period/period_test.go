package period

import (
	"math"
	"math/rand"
	"slices"
	"testing"
	"time"

	"lombard/api"
	"lombard/day"
)

const (
	least = math.MinInt
	most  = math.MaxInt
)

// wrongDays are one beyond the bounds, and far beyond: some of them days, if bits were cut off.
func wrongDays() []int {
	return []int{api.FirstDay - 1, api.FirstDay - 2, -365, -api.LastDay, api.LastDay + 1, api.LastDay + 2, 1 << 31, -1 << 31, 1<<32 + 1, 1 << 62, -1 << 62, least, least + 1, most - 1, most}
}

// wrongMonths are one beyond the bounds, and far beyond.
func wrongMonths() []int {
	return []int{-12001, 12001, -12002, 12002, 1 << 31, -1 << 31, 1 << 32, 1<<32 + 1, 1 << 62, -1 << 62, least, least + 1, most - 1, most}
}

// wrongSteps are one beyond the bounds, and far beyond.
func wrongSteps() []int {
	return []int{0, -1, -12, 13, 14, 24, 1 << 31, -1 << 31, 1<<32 + 1, 1 << 62, least, least + 1, most - 1, most}
}

// wrongTimes are one beyond the bounds, and far beyond.
func wrongTimes() []int {
	return []int{-1, -2, -api.MaxPeriods, api.MaxPeriods + 1, api.MaxPeriods + 2, 1 << 31, -1 << 31, 1 << 32, 1<<32 + 1, 1 << 62, least, least + 1, most - 1, most}
}

// wrongWays are beside those there are, and far off.
func wrongWays() []int {
	return []int{-1, 4, -2, -3, 5, 1 << 8, 1<<8 + 1, 1 << 32, 1<<32 + 1, 1<<32 + 2, -1 << 31, least, least + 1, least + 2, most - 1, most}
}

// on is a date's number, by the library's calendar.
func on(year, month, day int) int {
	first := time.Date(1, 1, 1, 0, 0, 0, 0, time.UTC)
	at := time.Date(year, time.Month(month), day, 0, 0, 0, 0, time.UTC)
	return int((at.Unix()-first.Unix())/(24*60*60)) + 1
}

// dateOf is a number's date, by the library's calendar.
func dateOf(n int) (year, month, day int) {
	at := time.Date(1, 1, 1, 0, 0, 0, 0, time.UTC).AddDate(0, 0, n-1)
	return at.Year(), int(at.Month()), at.Day()
}

func isDay(n int) bool {
	return n >= api.FirstDay && n <= api.LastDay
}

// edgeDays are the ends of months and their beginnings, of leap years and others, and the first and last days there are.
func edgeDays() []int {
	l := []int{api.FirstDay, api.FirstDay + 1, api.LastDay - 1, api.LastDay}
	for _, year := range []int{1, 4, 100, 400, 1900, 2000, 2019, 2020, 2021, 9996, 9999} {
		for month := 1; month <= 12; month++ {
			for _, d := range []int{1, 15, 27, 28, 29, 30, 31} {
				if d <= day.Last(year, month) {
					l = append(l, on(year, month, d))
				}
			}
		}
	}
	return l
}

func someDay(r *rand.Rand) int {
	return api.FirstDay + r.Intn(api.LastDay)
}

// someInt is of any width.
func someInt(r *rand.Rand) int {
	return int(r.Uint64()) >> r.Intn(64)
}

// span is all days from one to another.
func span(from, to int) []int {
	var l []int
	for n := from; n <= to; n++ {
		l = append(l, n)
	}
	return l
}

func checkMonths(t *testing.T, n, months int, end bool, want int, wantE api.Errno) {
	t.Helper()
	if k, e := Months(n, months, end); k != want || e != wantE {
		t.Fatalf("Months of %d, %d, %t: %d, %d; want %d, %d", n, months, end, k, e, want, wantE)
	}
}

func checkDates(t *testing.T, n, step, times int, end bool, want []int, wantE api.Errno) {
	t.Helper()
	if l, e := Dates(n, step, times, end); !slices.Equal(l, want) || e != wantE {
		t.Fatalf("Dates of %d, %d, %d, %t: %v, %d; want %v, %d", n, step, times, end, l, e, want, wantE)
	}
}

func checkWorks(t *testing.T, n int, holidays []int, want bool) {
	t.Helper()
	if Works(n, holidays) != want {
		t.Fatalf("Works of %d, %v: want %t", n, holidays, want)
	}
}

func checkRoll(t *testing.T, n, way int, holidays []int, want int, wantE api.Errno) {
	t.Helper()
	if k, e := Roll(n, way, holidays); k != want || e != wantE {
		t.Fatalf("Roll of %d, %d, %v: %d, %d; want %d, %d", n, way, holidays, k, e, want, wantE)
	}
}

// slowMonths is P6.1 word by word, by the library's calendar.
func slowMonths(n, months int, end bool) (int, api.Errno) {
	if !isDay(n) {
		return 0, api.ErrDate
	}
	if months < -12000 || months > 12000 {
		return 0, api.ErrArg
	}
	year, month, d := dateOf(n)
	first := time.Date(year, time.Month(month+months), 1, 0, 0, 0, 0, time.UTC)
	if first.Year() < 1 || first.Year() > 9999 {
		return 0, api.ErrDate
	}
	last := first.AddDate(0, 1, -1).Day()
	if d > last || end && time.Date(year, time.Month(month), d+1, 0, 0, 0, 0, time.UTC).Day() == 1 {
		d = last
	}
	return on(first.Year(), int(first.Month()), d), api.OK
}

// slowRoll is P6.2 word by word. It goes 1000 days both ways: 600 holidays, and the weekends among them, are fewer.
func slowRoll(n, way int, holidays []int) (int, api.Errno) {
	if !isDay(n) {
		return 0, api.ErrDate
	}
	if way < 0 || way > 3 || len(holidays) > 600 {
		return 0, api.ErrArg
	}
	works := func(k int) bool {
		at := time.Date(1, 1, 1, 0, 0, 0, 0, time.UTC).AddDate(0, 0, k-1)
		return at.Weekday() != time.Saturday && at.Weekday() != time.Sunday && !slices.Contains(holidays, k)
	}
	if way == Stay || works(n) {
		return n, api.OK
	}
	next, ahead := 0, 0
	for k := 1000; k >= 1; k-- {
		if isDay(n+k) && works(n+k) {
			next = n + k
		}
		if isDay(n-k) && works(n-k) {
			ahead = n - k
		}
	}
	found := next
	if way == Modified && next > 0 {
		y1, m1, _ := dateOf(n)
		y2, m2, _ := dateOf(next)
		if y1 != y2 || m1 != m2 {
			found = ahead
		}
	}
	if way == Preceding || way == Modified && next == 0 {
		found = ahead
	}
	if found == 0 {
		return 0, api.ErrDate
	}
	return found, api.OK
}

// P6.1 Months: the document's examples, and others worked out by hand.
func TestMonthsNamed(t *testing.T) {
	for _, x := range []struct {
		n, months   int
		plain, ends int
	}{
		{on(2020, 1, 31), 1, on(2020, 2, 29), on(2020, 2, 29)},
		{on(2020, 2, 29), 1, on(2020, 3, 29), on(2020, 3, 31)},
		{on(2020, 1, 15), 1, on(2020, 2, 15), on(2020, 2, 15)},
		{on(2020, 1, 15), 0, on(2020, 1, 15), on(2020, 1, 15)},
		{on(2020, 2, 29), 0, on(2020, 2, 29), on(2020, 2, 29)},
		{on(2020, 1, 15), -1, on(2019, 12, 15), on(2019, 12, 15)},
		{on(2020, 12, 15), 1, on(2021, 1, 15), on(2021, 1, 15)},
		{on(2020, 12, 31), 1, on(2021, 1, 31), on(2021, 1, 31)},
		{on(2020, 1, 31), -1, on(2019, 12, 31), on(2019, 12, 31)},
		{on(2020, 1, 15), 11, on(2020, 12, 15), on(2020, 12, 15)},
		{on(2020, 1, 15), 12, on(2021, 1, 15), on(2021, 1, 15)},
		{on(2020, 1, 15), 13, on(2021, 2, 15), on(2021, 2, 15)},
		{on(2020, 1, 15), -12, on(2019, 1, 15), on(2019, 1, 15)},
		{on(2020, 1, 15), -13, on(2018, 12, 15), on(2018, 12, 15)},
		{on(2020, 12, 15), -11, on(2020, 1, 15), on(2020, 1, 15)},
		{on(2020, 12, 15), -12, on(2019, 12, 15), on(2019, 12, 15)},
		{on(2020, 12, 15), 12, on(2021, 12, 15), on(2021, 12, 15)},
		{on(2019, 1, 28), 1, on(2019, 2, 28), on(2019, 2, 28)},
		{on(2019, 1, 29), 1, on(2019, 2, 28), on(2019, 2, 28)},
		{on(2019, 1, 30), 1, on(2019, 2, 28), on(2019, 2, 28)},
		{on(2019, 1, 31), 1, on(2019, 2, 28), on(2019, 2, 28)},
		{on(2020, 1, 28), 1, on(2020, 2, 28), on(2020, 2, 28)},
		{on(2020, 1, 29), 1, on(2020, 2, 29), on(2020, 2, 29)},
		{on(2020, 1, 30), 1, on(2020, 2, 29), on(2020, 2, 29)},
		{on(2019, 2, 28), 1, on(2019, 3, 28), on(2019, 3, 31)},
		{on(2020, 2, 28), 1, on(2020, 3, 28), on(2020, 3, 28)}, // not its month's last day
		{on(2019, 2, 28), 2, on(2019, 4, 28), on(2019, 4, 30)},
		{on(2019, 2, 28), 12, on(2020, 2, 28), on(2020, 2, 29)},
		{on(2020, 2, 28), 12, on(2021, 2, 28), on(2021, 2, 28)},
		{on(2020, 2, 29), 12, on(2021, 2, 28), on(2021, 2, 28)},
		{on(2020, 2, 29), 48, on(2024, 2, 29), on(2024, 2, 29)},
		{on(2020, 2, 29), -12, on(2019, 2, 28), on(2019, 2, 28)},
		{on(2019, 2, 28), -36, on(2016, 2, 28), on(2016, 2, 29)},
		{on(2020, 2, 29), -240, on(2000, 2, 29), on(2000, 2, 29)},
		{on(2020, 2, 29), -1440, on(1900, 2, 28), on(1900, 2, 28)},
		{on(1900, 2, 28), 1200, on(2000, 2, 28), on(2000, 2, 29)},
		{on(2020, 4, 30), 1, on(2020, 5, 30), on(2020, 5, 31)},
		{on(2020, 5, 30), 1, on(2020, 6, 30), on(2020, 6, 30)},
		{on(2020, 5, 30), 2, on(2020, 7, 30), on(2020, 7, 30)},
		{on(2020, 5, 31), 1, on(2020, 6, 30), on(2020, 6, 30)},
		{on(2020, 4, 30), -2, on(2020, 2, 29), on(2020, 2, 29)},
		{on(2020, 4, 30), -1, on(2020, 3, 30), on(2020, 3, 31)},
		{on(2020, 4, 29), -1, on(2020, 3, 29), on(2020, 3, 29)},
		{on(2020, 7, 31), 1, on(2020, 8, 31), on(2020, 8, 31)},
		{on(2020, 1, 15), 12000, on(3020, 1, 15), on(3020, 1, 15)},
		{on(2020, 1, 15), 11999, on(3019, 12, 15), on(3019, 12, 15)},
		{on(2020, 1, 15), -12000, on(1020, 1, 15), on(1020, 1, 15)},
		{on(2020, 1, 15), -11999, on(1020, 2, 15), on(1020, 2, 15)},
		{on(1, 1, 1), 12000, on(1001, 1, 1), on(1001, 1, 1)},
		{on(1001, 1, 1), -12000, on(1, 1, 1), on(1, 1, 1)},
		{on(9999, 12, 31), -12000, on(8999, 12, 31), on(8999, 12, 31)},
		{on(8999, 12, 31), 12000, on(9999, 12, 31), on(9999, 12, 31)},
		{on(1, 1, 1), 0, 1, 1},
		{on(9999, 12, 31), 0, 3652059, 3652059},
		{on(1, 2, 28), -1, on(1, 1, 28), on(1, 1, 31)},
		{on(9999, 11, 30), 1, on(9999, 12, 30), on(9999, 12, 31)},
	} {
		checkMonths(t, x.n, x.months, false, x.plain, api.OK)
		checkMonths(t, x.n, x.months, true, x.ends, api.OK)
	}
}

// P6.1 Months: the last months that there are, and those beyond.
func TestMonthsNoYear(t *testing.T) {
	for _, end := range []bool{false, true} {
		for _, x := range []struct{ n, inside, outside int }{
			{on(1, 1, 1), 0, -1},
			{on(1, 1, 31), 0, -1},
			{on(1, 2, 28), -1, -2},
			{on(1, 12, 31), -11, -12},
			{on(2, 1, 1), -12, -13},
			{on(2, 12, 15), -23, -24},
			{on(1000, 12, 15), -11999, -12000},
			{on(9999, 12, 1), 0, 1},
			{on(9999, 12, 31), 0, 1},
			{on(9999, 11, 30), 1, 2},
			{on(9999, 1, 1), 11, 12},
			{on(9998, 12, 31), 12, 13},
			{on(9998, 1, 15), 23, 24},
			{on(9000, 1, 15), 11999, 12000},
		} {
			if _, e := Months(x.n, x.inside, end); e != api.OK {
				t.Errorf("Months of %d, %d, %t: %d, want OK", x.n, x.inside, end, e)
			}
			way := 1
			if x.outside < 0 {
				way = -1
			}
			for months := x.outside; months >= -12000 && months <= 12000; months += way {
				checkMonths(t, x.n, months, end, 0, api.ErrDate)
			}
		}
	}
}

// P6.1 Months: no such day is told first, then months beyond the bounds, then a year that there is not.
func TestMonthsWrong(t *testing.T) {
	for _, end := range []bool{false, true} {
		for _, n := range wrongDays() {
			for _, months := range append(wrongMonths(), 0, 1, -1, 12000, -12000) {
				checkMonths(t, n, months, end, 0, api.ErrDate)
			}
		}
		for _, n := range []int{api.FirstDay, api.FirstDay + 1, on(1000, 1, 1), 737455, on(9000, 1, 1), api.LastDay - 1, api.LastDay} {
			for _, months := range wrongMonths() {
				checkMonths(t, n, months, end, 0, api.ErrArg)
			}
		}
	}
}

// P6.1 Months: every month from two days on, the last of February among them; the ends of months by a few; any days by any months.
func TestMonthsSlow(t *testing.T) {
	check := func(n, months int) {
		t.Helper()
		for _, end := range []bool{false, true} {
			want, e := slowMonths(n, months, end)
			checkMonths(t, n, months, end, want, e)
		}
	}
	for _, n := range []int{on(2020, 2, 29), on(2019, 2, 28), on(5000, 12, 31), on(500, 1, 30), on(9500, 4, 30)} {
		for months := -12001; months <= 12001; months++ {
			check(n, months)
		}
	}
	for _, n := range edgeDays() {
		for months := -50; months <= 50; months++ {
			check(n, months)
		}
		check(n, -12000)
		check(n, 12000)
	}
	r := rand.New(rand.NewSource(1))
	for range 50000 {
		check(someDay(r), r.Intn(24003)-12001)
		check(someDay(r), r.Intn(101)-50)
	}
}

// P6.1 Dates: worked out by hand. A short month doesn't shorten those behind it.
func TestDatesNamed(t *testing.T) {
	for _, x := range []struct {
		n, step, times int
		end            bool
		want           []int
	}{
		{on(2020, 1, 31), 1, 3, false, []int{on(2020, 2, 29), on(2020, 3, 31), on(2020, 4, 30)}},
		{on(2020, 1, 31), 1, 3, true, []int{on(2020, 2, 29), on(2020, 3, 31), on(2020, 4, 30)}},
		{on(2019, 12, 30), 1, 4, false, []int{on(2020, 1, 30), on(2020, 2, 29), on(2020, 3, 30), on(2020, 4, 30)}},
		{on(2019, 12, 30), 1, 4, true, []int{on(2020, 1, 30), on(2020, 2, 29), on(2020, 3, 30), on(2020, 4, 30)}},
		{on(2020, 2, 29), 1, 2, false, []int{on(2020, 3, 29), on(2020, 4, 29)}},
		{on(2020, 2, 29), 1, 2, true, []int{on(2020, 3, 31), on(2020, 4, 30)}},
		{on(2020, 1, 15), 1, 1, false, []int{on(2020, 2, 15)}},
		{on(2020, 1, 15), 3, 4, false, []int{on(2020, 4, 15), on(2020, 7, 15), on(2020, 10, 15), on(2021, 1, 15)}},
		{on(2020, 8, 31), 6, 3, false, []int{on(2021, 2, 28), on(2021, 8, 31), on(2022, 2, 28)}},
		{on(2020, 2, 29), 12, 4, false, []int{on(2021, 2, 28), on(2022, 2, 28), on(2023, 2, 28), on(2024, 2, 29)}},
		{on(2020, 2, 28), 12, 4, true, []int{on(2021, 2, 28), on(2022, 2, 28), on(2023, 2, 28), on(2024, 2, 28)}},
		{on(2021, 2, 28), 12, 3, true, []int{on(2022, 2, 28), on(2023, 2, 28), on(2024, 2, 29)}},
		{on(9999, 10, 31), 1, 2, false, []int{on(9999, 11, 30), on(9999, 12, 31)}},
		{on(2020, 1, 15), 1, 0, false, nil},
	} {
		checkDates(t, x.n, x.step, x.times, x.end, x.want, api.OK)
	}
}

// P6.1 Dates: each step and times at the bounds and between them, against Months' own words; the first error, with none of the days ahead of it.
func TestDatesSlow(t *testing.T) {
	check := func(n, step, times int, end bool) {
		t.Helper()
		var want []int
		for i := 1; i <= times; i++ {
			k, e := slowMonths(n, i*step, end)
			if e != api.OK {
				checkDates(t, n, step, times, end, nil, e)
				return
			}
			want = append(want, k)
		}
		checkDates(t, n, step, times, end, want, api.OK)
	}
	days := []int{api.FirstDay, on(2020, 1, 1), on(2020, 1, 31), on(2020, 2, 29), on(9399, 12, 31), on(9400, 1, 1), on(9949, 12, 31), on(9950, 1, 31), api.LastDay - 31, api.LastDay}
	for _, n := range append(days, wrongDays()...) {
		for step := 1; step <= 12; step++ {
			for _, times := range []int{0, 1, 2, 12, api.MaxPeriods - 1, api.MaxPeriods} {
				check(n, step, times, false)
				check(n, step, times, true)
			}
		}
	}
	r := rand.New(rand.NewSource(2))
	for range 500 {
		check(someDay(r), 1+r.Intn(12), r.Intn(api.MaxPeriods+1), r.Intn(2) == 0)
	}
}

// P6.1 Dates: the last one just within the years there are, and one more.
func TestDatesNoYear(t *testing.T) {
	n := on(9949, 12, 31)
	if l, e := Dates(n, 1, 600, false); len(l) != 600 || e != api.OK || l[599] != api.LastDay {
		t.Errorf("%d days, %d", len(l), e)
	}
	checkDates(t, n+1, 1, 600, false, nil, api.ErrDate)
	if l, e := Dates(n+1, 1, 599, false); len(l) != 599 || e != api.OK || l[598] != on(9999, 12, 1) {
		t.Errorf("%d days, %d", len(l), e)
	}
	checkDates(t, api.LastDay, 1, 1, false, nil, api.ErrDate)
	checkDates(t, api.LastDay, 1, 0, false, nil, api.OK)
}

// P6.1 Dates: a step or times that may not be is told ahead of no such day; no such day is told where a month is asked for, not where none is.
func TestDatesWrong(t *testing.T) {
	for _, n := range append(wrongDays(), api.FirstDay, 737455, api.LastDay) {
		for _, end := range []bool{false, true} {
			for _, step := range wrongSteps() {
				for _, times := range append(wrongTimes(), 0, 1, api.MaxPeriods) {
					checkDates(t, n, step, times, end, nil, api.ErrArg)
				}
			}
			for _, times := range wrongTimes() {
				for step := 1; step <= 12; step++ {
					checkDates(t, n, step, times, end, nil, api.ErrArg)
				}
			}
		}
	}
	for _, n := range wrongDays() {
		checkDates(t, n, 1, 1, false, nil, api.ErrDate)
		checkDates(t, n, 12, api.MaxPeriods, true, nil, api.ErrDate)
		checkDates(t, n, 1, 0, false, nil, api.OK)
	}
}

// Rule 4: days told twice share no memory.
func TestDatesNew(t *testing.T) {
	a, _ := Dates(737455, 1, 3, false)
	b, _ := Dates(737455, 1, 3, false)
	want := slices.Clone(b)
	for i := range a[:cap(a)] {
		a[:cap(a)][i] = -1
	}
	if !slices.Equal(b, want) {
		t.Errorf("%v, want %v", b, want)
	}
}

// P6.2 Works: a week, with holidays and without; the same one twice; numbers that are no days.
func TestWorksNamed(t *testing.T) {
	monday := on(2020, 3, 2)
	for i, want := range []bool{true, true, true, true, true, false, false, true} {
		n := monday + i
		checkWorks(t, n, nil, want)
		checkWorks(t, n, []int{}, want)
		checkWorks(t, n, []int{n - 7, n + 7, n - 1, n + 1, -n, 0, least, most}, want)
		checkWorks(t, n, []int{n}, false)
		checkWorks(t, n, []int{n, n}, false)
		checkWorks(t, n, []int{n - 1, n + 1, n}, false)
		checkWorks(t, n, []int{n, n - 1, n + 1}, false)
		checkWorks(t, n, []int{n - 1, n, n + 1}, false)
		checkWorks(t, n, append(make([]int, 1000), n), false)
		checkWorks(t, n, make([]int, 1000), want)
	}
}

// P6.2 Works, whatever n is: its weekday is told of any number, and a holiday may be any number.
func TestWorksAnyNumber(t *testing.T) {
	for _, x := range []struct {
		n    int
		want bool
	}{
		{api.FirstDay, true}, // a Monday
		{0, false},
		{-1, false},
		{-2, true},
		{-6, true},
		{-7, false},
		{api.LastDay, true}, // a Friday
		{api.LastDay + 1, false},
		{api.LastDay + 2, false},
		{api.LastDay + 3, true},
		{most, false}, // 2^63 - 2 is 6 more than a multiple of 7
		{most - 1, false},
		{most - 2, true},
		{least, false}, // -2^63 - 1 is 5 more than a multiple of 7
		{least + 1, false},
		{least + 2, true},
	} {
		checkWorks(t, x.n, nil, x.want)
		checkWorks(t, x.n, []int{0, 1, x.n}, false)
	}
}

// P6.2 Works: every day there is, by the library's weekdays.
func TestWorksEveryDay(t *testing.T) {
	week := time.Date(1, 1, 1, 0, 0, 0, 0, time.UTC).Weekday()
	for n := api.FirstDay; n <= api.LastDay; n++ {
		checkWorks(t, n, nil, week != time.Saturday && week != time.Sunday)
		week = (week + 1) % 7
	}
}

// P6.2 Roll: the document's examples, and others worked out by hand.
func TestRollNamed(t *testing.T) {
	if Stay != 0 || Following != 1 || Modified != 2 || Preceding != 3 {
		t.Errorf("the ways are %d, %d, %d, %d", Stay, Following, Modified, Preceding)
	}
	for _, x := range []struct {
		n                int
		holidays         []int
		next, mod, ahead int
	}{
		{on(2020, 2, 29), nil, on(2020, 3, 2), on(2020, 2, 28), on(2020, 2, 28)}, // a Saturday, its month's last
		{on(2020, 3, 1), nil, on(2020, 3, 2), on(2020, 3, 2), on(2020, 2, 28)},   // a Sunday, its month's first
		{on(2020, 5, 31), nil, on(2020, 6, 1), on(2020, 5, 29), on(2020, 5, 29)}, // a Sunday, its month's last
		{on(2020, 2, 1), nil, on(2020, 2, 3), on(2020, 2, 3), on(2020, 1, 31)},   // a Saturday, its month's first
		{on(2020, 3, 7), nil, on(2020, 3, 9), on(2020, 3, 9), on(2020, 3, 6)},
		{on(2020, 3, 8), nil, on(2020, 3, 9), on(2020, 3, 9), on(2020, 3, 6)},
		{on(2020, 3, 7), []int{on(2020, 3, 9)}, on(2020, 3, 10), on(2020, 3, 10), on(2020, 3, 6)},
		{on(2020, 3, 7), []int{on(2020, 3, 6)}, on(2020, 3, 9), on(2020, 3, 9), on(2020, 3, 5)},
		{on(2020, 3, 9), []int{on(2020, 3, 9)}, on(2020, 3, 10), on(2020, 3, 10), on(2020, 3, 6)},
		{on(2020, 3, 9), []int{on(2020, 3, 9), on(2020, 3, 9)}, on(2020, 3, 10), on(2020, 3, 10), on(2020, 3, 6)},
		{on(2020, 3, 9), []int{on(2020, 3, 11), on(2020, 3, 10), on(2020, 3, 9)}, on(2020, 3, 12), on(2020, 3, 12), on(2020, 3, 6)},
		{on(2020, 3, 11), []int{on(2020, 3, 9), on(2020, 3, 10), on(2020, 3, 11)}, on(2020, 3, 12), on(2020, 3, 12), on(2020, 3, 6)},
		{on(2020, 12, 31), []int{on(2020, 12, 31), on(2021, 1, 1)}, on(2021, 1, 4), on(2020, 12, 30), on(2020, 12, 30)},
		{on(2020, 12, 31), []int{on(2020, 12, 31)}, on(2021, 1, 1), on(2020, 12, 30), on(2020, 12, 30)},
		{on(2020, 12, 30), []int{on(2020, 12, 30)}, on(2020, 12, 31), on(2020, 12, 31), on(2020, 12, 29)},
		{on(2021, 1, 1), []int{on(2021, 1, 1)}, on(2021, 1, 4), on(2021, 1, 4), on(2020, 12, 31)},
		{on(2020, 4, 15), span(on(2020, 4, 15), on(2020, 4, 30)), on(2020, 5, 1), on(2020, 4, 14), on(2020, 4, 14)},
		{on(2020, 4, 15), span(on(2020, 4, 15), on(2020, 4, 29)), on(2020, 4, 30), on(2020, 4, 30), on(2020, 4, 14)},
		{on(2020, 4, 15), span(on(2020, 4, 1), on(2020, 4, 30)), on(2020, 5, 1), on(2020, 3, 31), on(2020, 3, 31)}, // no day of the month works
		{on(2020, 4, 15), span(on(2020, 4, 1), on(2020, 4, 29)), on(2020, 4, 30), on(2020, 4, 30), on(2020, 3, 31)},
		{on(2020, 2, 29), span(on(2020, 3, 1), on(2021, 1, 31)), on(2021, 2, 1), on(2020, 2, 28), on(2020, 2, 28)}, // the next one is of a month of the same number, a year on
		{on(2020, 3, 7), []int{0, -1, least, most, api.LastDay + 1, on(2020, 3, 9)}, on(2020, 3, 10), on(2020, 3, 10), on(2020, 3, 6)},
		{on(2020, 3, 7), []int{on(2019, 3, 9), on(2021, 3, 9)}, on(2020, 3, 9), on(2020, 3, 9), on(2020, 3, 6)},
		{api.LastDay - 1, []int{api.LastDay - 1}, api.LastDay, api.LastDay, api.LastDay - 2},
		{api.FirstDay + 1, []int{api.FirstDay + 1}, api.FirstDay + 2, api.FirstDay + 2, api.FirstDay},
		{6, nil, 8, 8, 5}, // the first Saturday
	} {
		checkRoll(t, x.n, Stay, x.holidays, x.n, api.OK)
		checkRoll(t, x.n, Following, x.holidays, x.next, api.OK)
		checkRoll(t, x.n, Modified, x.holidays, x.mod, api.OK)
		checkRoll(t, x.n, Preceding, x.holidays, x.ahead, api.OK)
	}
}

// P6.2 Roll: holidays up to the last day or from the first one, so that one direction has none, or neither has.
func TestRollNoDay(t *testing.T) {
	last, first := api.LastDay, api.FirstDay
	for _, x := range []struct {
		n        int
		holidays []int
		way      int
		want     int
		e        api.Errno
	}{
		{last, []int{last}, Following, 0, api.ErrDate},
		{last, []int{last}, Modified, last - 1, api.OK},
		{last, []int{last}, Preceding, last - 1, api.OK},
		{last, []int{last}, Stay, last, api.OK},
		{last, nil, Following, last, api.OK},
		{last - 1, []int{last, last - 1}, Following, 0, api.ErrDate},
		{last - 1, []int{last, last - 1}, Modified, last - 2, api.OK},
		{last, span(last-100, last), Following, 0, api.ErrDate},
		{last, span(last-100, last), Modified, last - 101, api.OK},
		{first, []int{first}, Preceding, 0, api.ErrDate},
		{first, []int{first}, Following, first + 1, api.OK},
		{first, []int{first}, Modified, first + 1, api.OK},
		{first, []int{first}, Stay, first, api.OK},
		{first, nil, Preceding, first, api.OK},
		{first + 1, []int{first, first + 1}, Preceding, 0, api.ErrDate},
		{first, span(1, 30), Modified, 31, api.OK},
		{first, span(1, 31), Following, 32, api.OK},
		{first, span(1, 31), Modified, 0, api.ErrDate}, // the next one is of February, and there is none ahead
		{first + 20, span(1, 31), Modified, 0, api.ErrDate},
		{first + 20, span(1, 31), Stay, first + 20, api.OK},
		{28, span(2, 31), Modified, 1, api.OK},
	} {
		checkRoll(t, x.n, x.way, x.holidays, x.want, x.e)
	}
}

// workdays are days from Monday to Friday, so many, from one on.
func workdays(from, times int) []int {
	var l []int
	for n := from; len(l) < times; n++ {
		if (n-1)%7 < 5 {
			l = append(l, n)
		}
	}
	return l
}

// P6.2 Roll: as many holidays as there may be, all in a row: more than two years; and one more, whatever they are.
func TestRollManyHolidays(t *testing.T) {
	monday := on(2020, 3, 2)
	l := workdays(monday, api.MaxPeriods)
	checkRoll(t, monday, Following, l, monday+840, api.OK)
	checkRoll(t, monday, Modified, l, monday-3, api.OK)
	checkRoll(t, monday, Preceding, l, monday-3, api.OK)
	checkRoll(t, monday+839, Preceding, l, monday-3, api.OK)
	checkRoll(t, monday+839, Following, l, monday+840, api.OK)
	checkRoll(t, monday+400, Stay, l, monday+400, api.OK)
	end := workdays(api.LastDay-837, api.MaxPeriods) // 120 weeks, of which the last has no weekend
	if end[0] != api.LastDay-837 || end[599] != api.LastDay {
		t.Fatalf("%d, %d", end[0], end[599])
	}
	checkRoll(t, api.LastDay, Following, end, 0, api.ErrDate)
	checkRoll(t, api.LastDay, Modified, end, api.LastDay-840, api.OK)
	for way := Stay; way <= Preceding; way++ {
		checkRoll(t, monday, way, append(slices.Clone(l), monday), 0, api.ErrArg)
		checkRoll(t, monday, way, make([]int, api.MaxPeriods+1), 0, api.ErrArg)
		checkRoll(t, monday, way, make([]int, 5000), 0, api.ErrArg)
		checkRoll(t, monday, way, make([]int, api.MaxPeriods), monday, api.OK)
	}
}

// P6.2 Roll: no such day is told ahead of all else; no such way, of a day that works too.
func TestRollWrong(t *testing.T) {
	lists := [][]int{nil, {}, {1}, {737455}, make([]int, api.MaxPeriods), make([]int, api.MaxPeriods+1)}
	for _, l := range lists {
		for _, n := range wrongDays() {
			for _, way := range append(wrongWays(), Stay, Following, Modified, Preceding) {
				checkRoll(t, n, way, l, 0, api.ErrDate)
				checkRoll(t, n, way, []int{n}, 0, api.ErrDate)
			}
		}
		for _, n := range []int{api.FirstDay, 6, 7, 737455, api.LastDay - 1, api.LastDay} {
			for _, way := range wrongWays() {
				checkRoll(t, n, way, l, 0, api.ErrArg)
			}
		}
	}
}

// someHolidays are near a day: single ones, and some in a row; with numbers that are no days.
func someHolidays(r *rand.Rand, n int) []int {
	var l []int
	for range r.Intn(20) {
		l = append(l, n+r.Intn(41)-20)
	}
	if r.Intn(3) == 0 {
		from := n - r.Intn(60)
		l = append(l, span(from, from+r.Intn(120))...)
	}
	if r.Intn(10) == 0 {
		l = append(l, 0, least, most, api.LastDay+1)
	}
	r.Shuffle(len(l), func(i, j int) { l[i], l[j] = l[j], l[i] })
	return l
}

// P6.2 Roll: edges and any days, each way, against the chapter's own words.
func TestRollSlow(t *testing.T) {
	r := rand.New(rand.NewSource(3))
	check := func(n int, l []int) {
		t.Helper()
		for way := Stay; way <= Preceding; way++ {
			want, e := slowRoll(n, way, l)
			checkRoll(t, n, way, l, want, e)
		}
	}
	for _, n := range edgeDays() {
		check(n, someHolidays(r, n))
	}
	for n := 1; n <= 40; n++ {
		check(n, someHolidays(r, n))
		check(n, span(1, n))
		check(api.LastDay+1-n, someHolidays(r, api.LastDay+1-n))
		check(api.LastDay+1-n, span(api.LastDay+1-n, api.LastDay))
	}
	for range 300 {
		n := someDay(r)
		check(n, someHolidays(r, n))
	}
}

// Rule 4: the holidays are as they were, their spare room too.
func TestHolidaysUnchanged(t *testing.T) {
	room := []int{5, 3, 737455, 3, -1, 737456, 9, 8, 7}
	was := slices.Clone(room)
	l := room[:6]
	for way := Stay; way <= Preceding; way++ {
		for _, n := range []int{1, 3, 5, 737455, 737456, 737460, api.LastDay} {
			Roll(n, way, l)
			Works(n, l)
		}
	}
	if !slices.Equal(room, was) {
		t.Errorf("%v, want %v", room, was)
	}
}

// P6.3: Dates rise, each one in a month of its own, as far from the last one as the step.
func TestDatesRise(t *testing.T) {
	r := rand.New(rand.NewSource(4))
	for range 2000 {
		n, step := someDay(r), 1+r.Intn(12)
		l, e := Dates(n, step, r.Intn(60), r.Intn(2) == 0)
		if e != api.OK {
			continue
		}
		year, month, _ := dateOf(n)
		for i, k := range append([]int{n}, l...) {
			y, m, _ := dateOf(k)
			if 12*(y-year)+m-month != step*i {
				t.Fatalf("Dates of %d, %d: %v", n, step, l)
			}
			if i > 0 && k <= append([]int{n}, l...)[i-1] {
				t.Fatalf("Dates of %d, %d: %v", n, step, l)
			}
		}
	}
}

// P6.3: rolled days work, unless they Stay; a day that works stays, whatever the way.
func TestRolledWork(t *testing.T) {
	r := rand.New(rand.NewSource(5))
	for range 20000 {
		n := someDay(r)
		l := someHolidays(r, n)
		for way := Stay; way <= Preceding; way++ {
			k, e := Roll(n, way, l)
			if e != api.OK {
				t.Fatalf("Roll of %d, %d, %v: %d", n, way, l, e)
			}
			if way != Stay && !Works(k, l) {
				t.Fatalf("Roll of %d, %d, %v: %d, that doesn't work", n, way, l, k)
			}
			if Works(n, l) && k != n {
				t.Fatalf("Roll of %d, %d, %v: %d, though it works", n, way, l, k)
			}
			checkRoll(t, k, way, l, k, api.OK)
		}
	}
}

// P6.3: months on and back is the same day, if it isn't beyond the 28th.
func TestMonthsBack(t *testing.T) {
	r := rand.New(rand.NewSource(6))
	for range 100000 {
		n, months := someDay(r), r.Intn(24001)-12000
		if _, _, d := dateOf(n); d > 28 {
			continue
		}
		k, e := Months(n, months, false)
		if e != api.OK {
			continue
		}
		checkMonths(t, k, -months, false, n, api.OK)
	}
}

// P1: every call ends and none panics, at arguments of all widths; beside an error there is nothing.
func TestTotal(t *testing.T) {
	r := rand.New(rand.NewSource(7))
	for range 100000 {
		n, months, end := someInt(r), someInt(r), r.Intn(2) == 0
		want, e := slowMonths(n, months, end)
		checkMonths(t, n, months, end, want, e)
		step, times := someInt(r), someInt(r)
		l, e := Dates(n, step, times, end)
		argE := step < 1 || step > 12 || times < 0 || times > 600
		if argE != (e == api.ErrArg) || e != api.OK && len(l) != 0 || e == api.OK && len(l) != times {
			t.Fatalf("Dates of %d, %d, %d: %v, %d", n, step, times, l, e)
		}
		holidays := []int{someInt(r), someInt(r), n}
		checkWorks(t, n, holidays, false)
		way := someInt(r)
		if k, e := Roll(n, way, holidays); e != api.OK && k != 0 || e == api.OK && !isDay(k) {
			t.Fatalf("Roll of %d, %d: %d, %d", n, way, k, e)
		}
	}
}
