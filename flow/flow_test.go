package flow

import (
	"math"
	"math/big"
	"math/rand"
	"slices"
	"testing"

	"lombard/api"
)

const (
	least = math.MinInt
	most  = math.MaxInt

	first = api.FirstDay
	last  = api.LastDay
	room  = api.MaxPeriods
	rich  = api.MaxMoney
)

// wrongDays are one beyond the bounds, and far beyond: some of them days, if bits were cut off.
func wrongDays() []int {
	return []int{first - 1, first - 2, -365, -last, last + 1, last + 2, 1 << 31, -1 << 31, 1<<32 + 1, 1<<32 + 5, 1 << 62, -1 << 62, least, least + 1, least + 5, most - 1, most}
}

// wrongAmounts are one beyond the bounds, and far beyond.
func wrongAmounts() []int64 {
	return []int64{rich + 1, rich + 2, -rich - 1, -rich - 2, 2 * rich, -2 * rich, 1 << 62, -1 << 62, math.MinInt64, math.MinInt64 + 1, math.MaxInt64 - 1, math.MaxInt64}
}

// rising are flows of one amount, so many, from a day on, a step apart.
func rising(from, step, times int, amount int64) []Flow {
	l := make([]Flow, times)
	for i := range l {
		l[i] = Flow{from + i*step, amount}
	}
	return l
}

// risingDays are days, so many, from one on, a step apart.
func risingDays(from, step, times int) []int {
	l := make([]int, times)
	for i := range l {
		l[i] = from + i*step
	}
	return l
}

// someInt is of any width.
func someInt(r *rand.Rand) int {
	return int(r.Uint64()) >> r.Intn(64)
}

// someAmount may be; 0, the bounds and small ones come often, so that sums come to 0 and go just beyond.
func someAmount(r *rand.Rand) int64 {
	switch r.Intn(6) {
	case 0:
		return 0
	case 1:
		return rich - int64(r.Intn(3))
	case 2:
		return -rich + int64(r.Intn(3))
	case 3:
		return r.Int63n(2*rich+1) - rich
	}
	return int64(r.Intn(7) - 3)
}

// someDays rise, near one another, so that two rows have days in common.
func someDays(r *rand.Rand, times int) []int {
	from := first
	if r.Intn(3) == 0 {
		from = last - 3*room
	}
	var l []int
	for n := from; len(l) < times && n <= last; n += 1 + r.Intn(3) {
		l = append(l, n)
	}
	return l
}

// someFlows may be.
func someFlows(r *rand.Rand, times int) []Flow {
	var l []Flow
	for _, n := range someDays(r, times) {
		l = append(l, Flow{n, someAmount(r)})
	}
	return l
}

// someRow is flows that may be, or that one thing is wrong with, or anything.
func someRow(r *rand.Rand) []Flow {
	l := someFlows(r, r.Intn(12))
	if len(l) == 0 || r.Intn(2) == 0 {
		return l
	}
	i := r.Intn(len(l))
	switch r.Intn(4) {
	case 0:
		l[i].Day = l[r.Intn(len(l))].Day
	case 1:
		l[i].Day = someInt(r)
	case 2:
		l[i].Amount = int64(someInt(r))
	case 3:
		for i := range l {
			l[i] = Flow{someInt(r), int64(someInt(r))}
		}
	}
	return l
}

func checkCheck(t *testing.T, l []Flow, want api.Errno) {
	t.Helper()
	if e := Check(l); e != want {
		t.Fatalf("Check of %v: %d, want %d", l, e, want)
	}
}

func checkTotal(t *testing.T, l []Flow, want int64, wantE api.Errno) {
	t.Helper()
	if n, e := Total(l); n != want || e != wantE {
		t.Fatalf("Total of %v: %d, %d; want %d, %d", l, n, e, want, wantE)
	}
}

func checkMerge(t *testing.T, a, b, want []Flow, wantE api.Errno) {
	t.Helper()
	if l, e := Merge(a, b); !slices.Equal(l, want) || e != wantE {
		t.Fatalf("Merge of %v, %v: %v, %d; want %v, %d", a, b, l, e, want, wantE)
	}
}

func checkParted(t *testing.T, l []Flow, day int, upto, behind []Flow) {
	t.Helper()
	if x, y := Parted(l, day); !slices.Equal(x, upto) || !slices.Equal(y, behind) {
		t.Fatalf("Parted of %v, %d: %v, %v; want %v, %v", l, day, x, y, upto, behind)
	}
}

func checkSpread(t *testing.T, l []Flow, days []int, want []int64, wantE api.Errno) {
	t.Helper()
	if sums, e := Spread(l, days); !slices.Equal(sums, want) || e != wantE {
		t.Fatalf("Spread of %v, %v: %v, %d; want %v, %d", l, days, sums, e, want, wantE)
	}
}

func may(n int64) bool {
	return n >= -rich && n <= rich
}

// slowDay is whether a number is a day, and above all those ahead of it.
func slowDay(ahead []int, n int) bool {
	return n >= first && n <= last && !slices.ContainsFunc(ahead, func(k int) bool { return k >= n })
}

// slowCheck is P7.1 word by word.
func slowCheck(l []Flow) api.Errno {
	if len(l) > 600 {
		return api.ErrFull
	}
	var days []int
	for _, f := range l {
		if !slowDay(days, f.Day) {
			return api.ErrDate
		}
		if !may(f.Amount) {
			return api.ErrArg
		}
		days = append(days, f.Day)
	}
	return api.OK
}

// slowMerge is P7.2 word by word, by a map from days.
func slowMerge(a, b []Flow) ([]Flow, api.Errno) {
	for _, l := range [][]Flow{a, b} {
		if e := slowCheck(l); e != api.OK {
			return nil, e
		}
	}
	sums := map[int]int64{}
	for _, f := range append(slices.Clone(a), b...) {
		sums[f.Day] += f.Amount
	}
	var l []Flow
	over := false
	for day, n := range sums {
		if n != 0 {
			l = append(l, Flow{day, n})
		}
		over = over || !may(n)
	}
	if over {
		return nil, api.ErrOver
	}
	if len(l) > 600 {
		return nil, api.ErrFull
	}
	slices.SortFunc(l, func(x, y Flow) int { return x.Day - y.Day })
	return l, api.OK
}

// slowSpread is P7.3 word by word: each day asks all flows.
func slowSpread(l []Flow, days []int) ([]int64, api.Errno) {
	if e := slowCheck(l); e != api.OK {
		return nil, e
	}
	if len(days) > 600 {
		return nil, api.ErrFull
	}
	for i, n := range days {
		if !slowDay(days[:i], n) {
			return nil, api.ErrDate
		}
	}
	for _, f := range l {
		if len(days) == 0 || f.Day > days[len(days)-1] {
			return nil, api.ErrArg
		}
	}
	var sums []int64
	ahead := 0
	for _, day := range days {
		var sum int64
		for _, f := range l {
			if f.Day > ahead && f.Day <= day {
				sum += f.Amount
			}
		}
		if !may(sum) {
			return nil, api.ErrOver
		}
		sums = append(sums, sum)
		ahead = day
	}
	return sums, api.OK
}

// slowTotal is P7.1 by numbers of any size.
func slowTotal(l []Flow) (int64, api.Errno) {
	sum := new(big.Int)
	for _, f := range l {
		sum.Add(sum, big.NewInt(f.Amount))
	}
	if !sum.IsInt64() {
		return 0, api.ErrOver
	}
	return sum.Int64(), api.OK
}

// P7.1 Check: what may be, and what is just beyond.
func TestCheckNamed(t *testing.T) {
	for _, x := range []struct {
		l    []Flow
		want api.Errno
	}{
		{nil, api.OK},
		{[]Flow{}, api.OK},
		{[]Flow{{3, 5}}, api.OK},
		{[]Flow{{3, 2}, {4, 1}}, api.OK},
		{[]Flow{{3, 0}, {4, 0}}, api.OK},
		{[]Flow{{3, -5}, {100, 5}, {101, -5}}, api.OK},
		{[]Flow{{first, 1}}, api.OK},
		{[]Flow{{last, 1}}, api.OK},
		{[]Flow{{first, 1}, {last, 1}}, api.OK},
		{[]Flow{{last - 1, 1}, {last, 1}}, api.OK},
		{[]Flow{{first, 1}, {first + 1, 1}}, api.OK},
		{[]Flow{{first, rich}, {first + 1, -rich}}, api.OK},
		{[]Flow{{first - 1, 1}}, api.ErrDate},
		{[]Flow{{last + 1, 1}}, api.ErrDate},
		{[]Flow{{first, 1}, {last + 1, 1}}, api.ErrDate},
		{[]Flow{{first - 1, 1}, {first, 1}}, api.ErrDate},
		{[]Flow{{last, 1}, {last + 1, 1}}, api.ErrDate},
		{[]Flow{{3, 1}, {3, 1}}, api.ErrDate},
		{[]Flow{{3, 1}, {2, 1}}, api.ErrDate},
		{[]Flow{{1, 1}, {5, 1}, {3, 1}}, api.ErrDate}, // above the first one, not above the last
		{[]Flow{{1, 1}, {5, 1}, {5, 1}}, api.ErrDate},
		{[]Flow{{last, 1}, {last, 1}}, api.ErrDate},
		{[]Flow{{first, 1}, {first, 1}}, api.ErrDate},
		{[]Flow{{3, rich + 1}}, api.ErrArg},
		{[]Flow{{3, -rich - 1}}, api.ErrArg},
		{[]Flow{{3, 1}, {4, rich + 1}}, api.ErrArg},
		{[]Flow{{3, 1}, {4, -rich - 1}, {5, 1}}, api.ErrArg},
	} {
		checkCheck(t, x.l, x.want)
	}
}

// P7.1 Check: of the first one that isn't so, its day ahead of its amount; too many, ahead of all else.
func TestCheckFirstError(t *testing.T) {
	for _, n := range wrongAmounts() {
		checkCheck(t, []Flow{{3, n}, {3, 1}}, api.ErrArg)
		checkCheck(t, []Flow{{3, n}, {0, n}}, api.ErrArg)
		checkCheck(t, []Flow{{3, 1}, {3, n}}, api.ErrDate)
		checkCheck(t, []Flow{{3, 1}, {2, 1}, {4, n}}, api.ErrDate)
		checkCheck(t, []Flow{{3, 1}, {4, n}, {2, 1}}, api.ErrArg)
		for _, day := range wrongDays() {
			checkCheck(t, []Flow{{day, n}}, api.ErrDate)
			checkCheck(t, []Flow{{day, 1}, {3, n}}, api.ErrDate)
			checkCheck(t, []Flow{{3, n}, {day, 1}}, api.ErrArg)
			checkCheck(t, []Flow{{3, 1}, {day, n}}, api.ErrDate)
		}
	}
	checkCheck(t, make([]Flow, room), api.ErrDate)
	checkCheck(t, make([]Flow, room+1), api.ErrFull)
	checkCheck(t, rising(1, 1, room+1, rich+1), api.ErrFull)
	checkCheck(t, rising(last, 1, room+1, 1), api.ErrFull)
}

// P7.1 Check: a wrong day or amount in each place of a row.
func TestCheckEachPlace(t *testing.T) {
	for _, times := range []int{1, 2, 3, 10} {
		for i := range times {
			for _, day := range wrongDays() {
				l := rising(7, 3, times, 1)
				l[i].Day = day
				checkCheck(t, l, api.ErrDate)
			}
			for _, n := range wrongAmounts() {
				l := rising(7, 3, times, 1)
				l[i].Amount = n
				checkCheck(t, l, api.ErrArg)
			}
			if i > 0 {
				l := rising(7, 3, times, 1)
				l[i].Day = l[i-1].Day
				checkCheck(t, l, api.ErrDate)
				l[i].Day++
				checkCheck(t, l, api.OK)
			}
		}
	}
}

// P7.1 Check: as many as there may be, and one more.
func TestCheckMany(t *testing.T) {
	for _, amount := range []int64{0, 1, -1, rich, -rich} {
		checkCheck(t, rising(first, 1, room-1, amount), api.OK)
		checkCheck(t, rising(first, 1, room, amount), api.OK)
		checkCheck(t, rising(first, 1, room+1, amount), api.ErrFull)
		checkCheck(t, rising(first, 6000, room, amount), api.OK)
		checkCheck(t, rising(last-room+1, 1, room, amount), api.OK)
		checkCheck(t, rising(last-room+2, 1, room, amount), api.ErrDate)
		checkCheck(t, rising(first, 1, 5000, amount), api.ErrFull)
	}
}

// P7.1 Check: any rows, against the chapter's own words.
func TestCheckSlow(t *testing.T) {
	r := rand.New(rand.NewSource(1))
	for range 50000 {
		l := someRow(r)
		checkCheck(t, l, slowCheck(l))
	}
}

// P7.1 Total: whatever the flows; a sum on the way may be beyond the bounds.
func TestTotalNamed(t *testing.T) {
	for _, x := range []struct {
		l    []Flow
		want int64
		e    api.Errno
	}{
		{nil, 0, api.OK},
		{[]Flow{}, 0, api.OK},
		{[]Flow{{3, 5}}, 5, api.OK},
		{[]Flow{{3, 7}, {4, 1}}, 8, api.OK},
		{[]Flow{{3, 5}, {7, -2}, {9, 0}}, 3, api.OK},
		{[]Flow{{3, 5}, {3, -5}}, 0, api.OK},
		{[]Flow{{9, 5}, {3, 5}, {0, 1}, {least, 1}, {most, 1}}, 13, api.OK},
		{[]Flow{{1, rich}, {2, rich}}, 2 * rich, api.OK},
		{[]Flow{{1, rich + 1}}, rich + 1, api.OK},
		{[]Flow{{1, math.MaxInt64}}, math.MaxInt64, api.OK},
		{[]Flow{{1, math.MinInt64}}, math.MinInt64, api.OK},
		{[]Flow{{1, math.MaxInt64}, {2, 1}}, 0, api.ErrOver},
		{[]Flow{{1, math.MinInt64}, {2, -1}}, 0, api.ErrOver},
		{[]Flow{{1, math.MaxInt64}, {2, 1}, {3, -1}}, math.MaxInt64, api.OK},
		{[]Flow{{1, math.MinInt64}, {2, -1}, {3, 1}}, math.MinInt64, api.OK},
		{[]Flow{{1, math.MinInt64}, {1, math.MinInt64}}, 0, api.ErrOver}, // goes round to 0
	} {
		checkTotal(t, x.l, x.want, x.e)
	}
	checkTotal(t, rising(1, 1, room, rich), room*rich, api.OK)
	checkTotal(t, rising(1, 1, room+1, 1), room+1, api.OK)
	checkTotal(t, rising(1, 0, 5000, -1), -5000, api.OK)
}

// P7.1 Total: any amounts, by numbers of any size.
func TestTotalSlow(t *testing.T) {
	r := rand.New(rand.NewSource(2))
	for range 20000 {
		l := make([]Flow, r.Intn(12))
		for i := range l {
			l[i] = Flow{someInt(r), int64(someInt(r))}
		}
		want, e := slowTotal(l)
		checkTotal(t, l, want, e)
	}
}

// P7.2 Merge: the document's example, and others worked out by hand; each in both orders.
func TestMergeNamed(t *testing.T) {
	for _, x := range []struct {
		a, b, want []Flow
	}{
		{[]Flow{{3, 5}}, []Flow{{3, 2}, {4, 1}}, []Flow{{3, 7}, {4, 1}}},
		{nil, nil, nil},
		{[]Flow{}, nil, nil},
		{[]Flow{{3, 5}}, nil, []Flow{{3, 5}}},
		{[]Flow{{3, 5}}, []Flow{}, []Flow{{3, 5}}},
		{[]Flow{{3, 5}, {7, -2}}, nil, []Flow{{3, 5}, {7, -2}}},
		{[]Flow{{3, 5}}, []Flow{{4, 5}}, []Flow{{3, 5}, {4, 5}}},
		{[]Flow{{1, 1}, {2, 2}}, []Flow{{3, 3}, {4, 4}}, []Flow{{1, 1}, {2, 2}, {3, 3}, {4, 4}}},
		{[]Flow{{1, 1}, {3, 3}, {5, 5}}, []Flow{{2, 2}, {4, 4}}, []Flow{{1, 1}, {2, 2}, {3, 3}, {4, 4}, {5, 5}}},
		{[]Flow{{1, 1}, {5, 5}}, []Flow{{2, 2}, {3, 3}}, []Flow{{1, 1}, {2, 2}, {3, 3}, {5, 5}}},
		{[]Flow{{1, 1}, {3, 3}}, []Flow{{1, 10}, {2, 2}, {3, 30}}, []Flow{{1, 11}, {2, 2}, {3, 33}}},
		{[]Flow{{1, 1}, {2, 2}}, []Flow{{1, 10}, {2, 20}}, []Flow{{1, 11}, {2, 22}}},
		{[]Flow{{1, -1}, {2, -2}}, []Flow{{1, -10}, {2, 20}}, []Flow{{1, -11}, {2, 18}}},
		{[]Flow{{first, 1}, {last, 2}}, []Flow{{first, 3}, {last, 4}}, []Flow{{first, 4}, {last, 6}}},
		{[]Flow{{first, 1}}, []Flow{{last, 2}}, []Flow{{first, 1}, {last, 2}}},
		// those of 0 are left out: of one row, and of both together
		{[]Flow{{3, 0}}, nil, nil},
		{[]Flow{{3, 0}}, []Flow{{3, 0}}, nil},
		{[]Flow{{3, 0}}, []Flow{{4, 0}}, nil},
		{[]Flow{{3, 0}, {5, 1}}, []Flow{{4, 0}, {5, -1}}, nil},
		{[]Flow{{3, 0}}, []Flow{{3, 1}}, []Flow{{3, 1}}},
		{[]Flow{{3, 5}}, []Flow{{3, -5}}, nil},
		{[]Flow{{3, 5}, {7, -2}, {9, 0}}, []Flow{{1, 1}, {3, -5}, {7, 4}}, []Flow{{1, 1}, {7, 2}}},
		{[]Flow{{1, 1}, {2, 5}, {3, 1}}, []Flow{{2, -5}}, []Flow{{1, 1}, {3, 1}}},
		{[]Flow{{1, 0}, {2, 5}, {3, 0}}, nil, []Flow{{2, 5}}},
		{[]Flow{{3, rich}}, []Flow{{3, -rich}}, nil},
		// amounts that may just be together
		{[]Flow{{3, rich - 1}}, []Flow{{3, 1}}, []Flow{{3, rich}}},
		{[]Flow{{3, rich}}, []Flow{{3, 0}}, []Flow{{3, rich}}},
		{[]Flow{{3, rich}}, []Flow{{4, rich}}, []Flow{{3, rich}, {4, rich}}},
		{[]Flow{{3, -rich + 1}}, []Flow{{3, -1}}, []Flow{{3, -rich}}},
		{[]Flow{{3, rich}}, []Flow{{3, -1}}, []Flow{{3, rich - 1}}},
	} {
		checkMerge(t, x.a, x.b, x.want, api.OK)
		checkMerge(t, x.b, x.a, x.want, api.OK)
	}
}

// P7.2 Merge: both together one beyond what may be, and far beyond, in each place.
func TestMergeOver(t *testing.T) {
	for _, x := range []struct{ a, b int64 }{{rich, 1}, {1, rich}, {rich, rich}, {-rich, -1}, {-1, -rich}, {-rich, -rich}, {rich/2 + 1, rich / 2}, {-rich / 2, -rich/2 - 1}} {
		for i := range 5 {
			a, b := rising(1, 2, 5, 1), rising(1, 1, 10, 1)
			a[i].Amount, b[2*i].Amount = x.a, x.b
			checkMerge(t, a, b, nil, api.ErrOver)
			checkMerge(t, b, a, nil, api.ErrOver)
		}
	}
}

// P7.2 Merge: as many together as there may be, and one more; those of 0 don't count.
func TestMergeFull(t *testing.T) {
	odd, even := rising(1, 2, room, 1), rising(2, 2, room, 1)
	none := rising(2, 2, room, 0)
	for _, x := range []struct {
		a, b []Flow
		n    int // how many there are, but for those of 0
	}{
		{odd[:room/2], even[:room/2], room},
		{odd[:room/2], even[:room/2+1], room + 1},
		{odd[:room/2], even[:room/2-1], room - 1},
		{odd, nil, room},
		{odd, even[:1], room + 1},
		{odd, even[room-1:], room + 1},
		{odd, even, 2 * room},
		{odd, odd, room},
		{odd, none, room},
		{none, none, 0},
		{odd, rising(1, 2, room, -1), 0},
		{odd, []Flow{{1, -1}, {2, 1}}, room},
		{odd, []Flow{{1, -1}, {2, 1}, {4, 1}}, room + 1},
		{odd, []Flow{{1, -1}, {2, 0}, {4, 1}}, room},
	} {
		for _, both := range [][2][]Flow{{x.a, x.b}, {x.b, x.a}} {
			want, e := slowMerge(both[0], both[1])
			if x.n > room {
				want, e = nil, api.ErrFull
			}
			if len(want) != x.n && e == api.OK {
				t.Fatalf("%d flows, want %d", len(want), x.n)
			}
			checkMerge(t, both[0], both[1], want, e)
		}
	}
	// an amount that may not be is told ahead of too many
	checkMerge(t, odd, append([]Flow{{1, rich}}, even...)[:room], nil, api.ErrOver)
	checkMerge(t, odd, append(slices.Clone(even[:room-1]), Flow{2*room - 1, rich}), nil, api.ErrOver)
}

// P7.2 Merge: what is wrong with the first row is told, then what with the second, ahead of all else.
func TestMergeWrong(t *testing.T) {
	full, date, arg := rising(1, 1, room+1, 1), []Flow{{3, 1}, {3, 1}}, []Flow{{3, rich + 1}}
	big := []Flow{{3, rich}}
	rows := []struct {
		l []Flow
		e api.Errno
	}{{nil, api.OK}, {[]Flow{}, api.OK}, {big, api.OK}, {rising(1, 1, room, 1), api.OK}, {full, api.ErrFull}, {date, api.ErrDate}, {arg, api.ErrArg}, {make([]Flow, room), api.ErrDate}}
	for _, n := range wrongAmounts() {
		rows = append(rows, struct {
			l []Flow
			e api.Errno
		}{[]Flow{{3, 1}, {4, n}}, api.ErrArg})
	}
	for _, day := range wrongDays() {
		rows = append(rows, struct {
			l []Flow
			e api.Errno
		}{[]Flow{{day, rich + 1}}, api.ErrDate})
	}
	for _, a := range rows {
		for _, b := range rows {
			if a.e != api.OK {
				checkMerge(t, a.l, b.l, nil, a.e)
			} else if b.e != api.OK {
				checkMerge(t, a.l, b.l, nil, b.e)
			}
		}
	}
}

// P7.2 Merge: any rows, against the chapter's own words.
func TestMergeSlow(t *testing.T) {
	r := rand.New(rand.NewSource(3))
	check := func(a, b []Flow) {
		t.Helper()
		want, e := slowMerge(a, b)
		checkMerge(t, a, b, want, e)
	}
	for range 30000 {
		check(someFlows(r, r.Intn(8)), someFlows(r, r.Intn(8)))
		check(someRow(r), someRow(r))
	}
	for range 300 {
		a, b := someFlows(r, room), someFlows(r, r.Intn(room+2))
		for i := range a {
			a[i].Amount %= 10
		}
		for i := range b {
			b[i].Amount %= 10
		}
		check(a, b)
		check(b, a)
	}
}

// P7.2 Parted: a day ahead of all, on one, between two, behind all.
func TestPartedNamed(t *testing.T) {
	l := []Flow{{3, 5}, {7, -2}, {9, 0}}
	for _, x := range []struct{ day, upto int }{
		{least, 0}, {-1, 0}, {0, 0}, {1, 0}, {2, 0}, {3, 1}, {4, 1}, {6, 1}, {7, 2}, {8, 2}, {9, 3}, {10, 3}, {last, 3}, {last + 1, 3}, {most, 3},
	} {
		checkParted(t, l, x.day, l[:x.upto], l[x.upto:])
	}
	for _, day := range []int{least, 0, 5, last, most} {
		checkParted(t, nil, day, nil, nil)
		checkParted(t, []Flow{}, day, nil, nil)
	}
}

// P7.2 Parted: whatever the flows are, in the order in which they stand.
func TestPartedAnything(t *testing.T) {
	l := []Flow{{9, 1}, {3, 2}, {most, 3}, {3, math.MinInt64}, {9, 5}, {least, 6}, {0, 7}, {10, math.MaxInt64}, {3, 9}}
	checkParted(t, l, 3, []Flow{{3, 2}, {3, math.MinInt64}, {least, 6}, {0, 7}, {3, 9}}, []Flow{{9, 1}, {most, 3}, {9, 5}, {10, math.MaxInt64}})
	checkParted(t, l, 9, []Flow{{9, 1}, {3, 2}, {3, math.MinInt64}, {9, 5}, {least, 6}, {0, 7}, {3, 9}}, []Flow{{most, 3}, {10, math.MaxInt64}})
	checkParted(t, l, least, []Flow{{least, 6}}, []Flow{{9, 1}, {3, 2}, {most, 3}, {3, math.MinInt64}, {9, 5}, {0, 7}, {10, math.MaxInt64}, {3, 9}})
	checkParted(t, l, most, l, nil)
	checkParted(t, l, most-1, slices.Delete(slices.Clone(l), 2, 3), []Flow{{most, 3}})
	many := rising(1, 1, 5000, rich+1)
	checkParted(t, many, 3000, many[:3000], many[3000:])
	checkParted(t, make([]Flow, room+1), 0, make([]Flow, room+1), nil)
	checkParted(t, make([]Flow, room+1), -1, nil, make([]Flow, room+1))
}

// P7.3 Spread: the document's example, and others worked out by hand.
func TestSpreadNamed(t *testing.T) {
	l := []Flow{{3, 5}, {7, -2}, {9, 1}}
	for _, x := range []struct {
		l    []Flow
		days []int
		want []int64
		e    api.Errno
	}{
		{[]Flow{{3, 7}, {4, 1}}, []int{3, 10}, []int64{7, 1}, api.OK},
		{l, []int{9}, []int64{4}, api.OK},
		{l, []int{10}, []int64{4}, api.OK},
		{l, []int{last}, []int64{4}, api.OK},
		{l, []int{3, 7, 9}, []int64{5, -2, 1}, api.OK},
		{l, []int{1, 3, 8, 20}, []int64{0, 5, -2, 1}, api.OK},
		{l, []int{1, 2, 9}, []int64{0, 0, 4}, api.OK},
		{l, []int{2, 6, 8, 9}, []int64{0, 5, -2, 1}, api.OK},
		{l, []int{4, 5, 6, 9}, []int64{5, 0, 0, -1}, api.OK},
		{l, []int{7, 9, 10, 11}, []int64{3, 1, 0, 0}, api.OK},
		{l, []int{9, 10, last}, []int64{4, 0, 0}, api.OK},
		{l, []int{8}, nil, api.ErrArg},
		{l, []int{3, 8}, nil, api.ErrArg},
		{l, []int{1, 2}, nil, api.ErrArg},
		{l, nil, nil, api.ErrArg},
		{l, []int{}, nil, api.ErrArg},
		{nil, nil, nil, api.OK},
		{[]Flow{}, []int{}, nil, api.OK},
		{nil, []int{5}, []int64{0}, api.OK},
		{nil, []int{5, 6, last}, []int64{0, 0, 0}, api.OK},
		{[]Flow{{3, 0}}, []int{3}, []int64{0}, api.OK},
		{[]Flow{{3, 0}}, []int{2}, nil, api.ErrArg}, // one of 0 is one too
		{[]Flow{{3, 0}}, nil, nil, api.ErrArg},
		{[]Flow{{first, 1}, {last, 2}}, []int{first, last}, []int64{1, 2}, api.OK},
		{[]Flow{{first, 1}, {last, 2}}, []int{last}, []int64{3}, api.OK},
		{[]Flow{{first, 1}, {last, 2}}, []int{first, last - 1}, nil, api.ErrArg},
		{[]Flow{{last, 2}}, []int{last - 1, last}, []int64{0, 2}, api.OK},
		{[]Flow{{first + 1, 2}}, []int{first}, nil, api.ErrArg},
		// sums that may just be, and one beyond
		{[]Flow{{1, rich}, {2, 1}}, []int{1, 2}, []int64{rich, 1}, api.OK},
		{[]Flow{{1, rich}, {2, 1}}, []int{5}, nil, api.ErrOver},
		{[]Flow{{1, rich - 1}, {2, 1}}, []int{5}, []int64{rich}, api.OK},
		{[]Flow{{1, -rich}, {2, -1}}, []int{5}, nil, api.ErrOver},
		{[]Flow{{1, -rich}, {2, 1}}, []int{5}, []int64{-rich + 1}, api.OK},
		{[]Flow{{1, -rich + 1}, {2, -1}}, []int{5}, []int64{-rich}, api.OK},
		{[]Flow{{1, rich}, {2, rich}, {3, -rich}}, []int{5}, []int64{rich}, api.OK}, // only the sum on the way is beyond
		{[]Flow{{1, -rich}, {2, -rich}, {3, rich}}, []int{3}, []int64{-rich}, api.OK},
		{[]Flow{{1, rich}, {2, rich}, {3, -rich}}, []int{2, 3}, nil, api.ErrOver},
		{[]Flow{{1, rich}, {2, rich}, {3, -rich}}, []int{1, 3}, []int64{rich, 0}, api.OK},
		{[]Flow{{1, 1}, {2, rich}, {3, 1}}, []int{1, 3, 4}, nil, api.ErrOver},
	} {
		checkSpread(t, x.l, x.days, x.want, x.e)
	}
}

// P7.3 Spread: days that are none, that are the same twice or fall, in each place.
func TestSpreadWrongDays(t *testing.T) {
	for _, l := range [][]Flow{nil, {}, {{3, 5}}, {{1, rich}, {2, 1}}, {{last, 1}}} {
		for _, days := range [][]int{{9, 9}, {9, 8}, {0, 9}, {1, 5, 3}, {1, 5, 5}, {first, first}, {last, last}, {last, first}, {9, 10, 1}} {
			checkSpread(t, l, days, nil, api.ErrDate)
		}
		for _, n := range wrongDays() {
			checkSpread(t, l, []int{n}, nil, api.ErrDate)
			for i := range 4 {
				days := risingDays(4, 3, 4)
				days[i] = n
				checkSpread(t, l, days, nil, api.ErrDate)
			}
		}
	}
}

// P7.3 Spread: as many days as there may be, and one more, as many flows as there may be, and one more.
func TestSpreadMany(t *testing.T) {
	flows, days := rising(2, 2, room, 1), risingDays(2, 2, room)
	ones := make([]int64, room)
	for i := range ones {
		ones[i] = 1
	}
	checkSpread(t, flows, days, ones, api.OK)
	checkSpread(t, flows, risingDays(3, 2, room), ones, api.OK)
	checkSpread(t, flows, risingDays(1, 2, room), nil, api.ErrArg)
	checkSpread(t, flows, []int{2 * room}, []int64{room}, api.OK)
	checkSpread(t, flows, []int{2*room - 1}, nil, api.ErrArg)
	checkSpread(t, nil, days, make([]int64, room), api.OK)
	checkSpread(t, flows, risingDays(2, 2, room+1), nil, api.ErrFull)
	checkSpread(t, nil, risingDays(2, 2, room+1), nil, api.ErrFull)
	checkSpread(t, nil, risingDays(last-room+1, 1, room), make([]int64, room), api.OK)
	checkSpread(t, nil, risingDays(last-room+2, 1, room), nil, api.ErrDate)
	checkSpread(t, rising(1, 1, room+1, 1), days, nil, api.ErrFull)
	checkSpread(t, rising(1, 1, room, rich), []int{room}, nil, api.ErrOver)
	checkSpread(t, rising(1, 1, room, -rich), []int{room}, nil, api.ErrOver)
}

// P7.3 Spread: the flows' error is told first, then too many days, then days that are none or don't rise, then a flow behind the last one, then a sum that may not be.
func TestSpreadFirstError(t *testing.T) {
	wrong := []struct {
		l []Flow
		e api.Errno
	}{{rising(1, 1, room+1, 1), api.ErrFull}, {[]Flow{{3, 1}, {3, 1}}, api.ErrDate}, {[]Flow{{0, rich + 1}}, api.ErrDate}, {[]Flow{{3, rich + 1}}, api.ErrArg}, {[]Flow{{3, rich + 1}, {3, 1}}, api.ErrArg}}
	for _, x := range wrong {
		for _, days := range [][]int{nil, {5}, {1}, {9, 9}, {0}, make([]int, room), make([]int, room+1), risingDays(1, 1, room+1)} {
			checkSpread(t, x.l, days, nil, x.e)
		}
	}
	over := []Flow{{1, rich}, {2, 1}, {9, 1}}
	checkSpread(t, over, make([]int, room+1), nil, api.ErrFull)
	checkSpread(t, over, make([]int, room), nil, api.ErrDate)
	checkSpread(t, over, []int{5, 5}, nil, api.ErrDate)
	checkSpread(t, over, []int{5, last + 1}, nil, api.ErrDate)
	checkSpread(t, over, []int{5}, nil, api.ErrArg)
	checkSpread(t, over, []int{5, 8}, nil, api.ErrArg)
	checkSpread(t, over, []int{5, 9}, nil, api.ErrOver)
}

// P7.3 Spread: any rows and days, against the chapter's own words.
func TestSpreadSlow(t *testing.T) {
	r := rand.New(rand.NewSource(4))
	check := func(l []Flow, days []int) {
		t.Helper()
		want, e := slowSpread(l, days)
		checkSpread(t, l, days, want, e)
	}
	for range 30000 {
		days := someDays(r, r.Intn(12))
		check(someFlows(r, r.Intn(12)), days)
		if len(days) > 0 && r.Intn(3) == 0 {
			days[r.Intn(len(days))] = someInt(r)
		}
		check(someRow(r), days)
		check(someRow(r), append(days, last))
	}
	for range 50 {
		check(someFlows(r, room), someDays(r, r.Intn(room+2)))
		check(rising(1, 3, room, 1), append(someDays(r, r.Intn(room)), last))
	}
}

// P7.4: Merge goes both ways, and has the Total of both; what Parted parts is the whole, together; what is spread has the same Total.
func TestTogether(t *testing.T) {
	r := rand.New(rand.NewSource(5))
	for range 20000 {
		a, b := someFlows(r, r.Intn(30)), someFlows(r, r.Intn(30))
		ab, e := Merge(a, b)
		ba, f := Merge(b, a)
		if e != f || !slices.Equal(ab, ba) {
			t.Fatalf("Merge of %v, %v: %v, %d, and %v, %d", a, b, ab, e, ba, f)
		}
		if e == api.OK {
			checkCheck(t, ab, api.OK)
			want, _ := slowTotal(append(slices.Clone(a), b...))
			checkTotal(t, ab, want, api.OK)
		}
		checkWhole(t, a, someDays(r, 1+r.Intn(20)))
	}
}

// checkWhole parts and spreads a row by days, and puts it together again.
func checkWhole(t *testing.T, l []Flow, days []int) {
	t.Helper()
	want, _ := slowTotal(l)
	for _, day := range days {
		x, y := Parted(l, day)
		if !slices.Equal(slices.Concat(x, y), l) {
			t.Fatalf("Parted of %v, %d: %v, %v", l, day, x, y)
		}
		whole, _ := Merge(l, nil) // without those of 0
		checkMerge(t, x, y, whole, api.OK)
		checkMerge(t, y, x, whole, api.OK)
	}
	sums, e := Spread(l, days)
	if e != api.OK {
		return
	}
	var sum int64
	for _, n := range sums {
		sum += n
	}
	if sum != want {
		t.Fatalf("Spread of %v, %v: %v, of the total %d, want %d", l, days, sums, sum, want)
	}
}

// Rule 4: the flows and days are as they were, their spare room too, whether a call fails or not.
func TestUnchanged(t *testing.T) {
	r := rand.New(rand.NewSource(6))
	for range 5000 {
		a, b, days := someRow(r), someRow(r), someDays(r, r.Intn(12))
		a, b, days = append(a, Flow{-1, -1}, Flow{-2, -2}), append(b, Flow{-3, -3}), append(days, -4, -5)
		wasA, wasB, wasDays := slices.Clone(a), slices.Clone(b), slices.Clone(days)
		x, y, z := a[:len(a)-2], b[:len(b)-1], days[:len(days)-2]
		Check(x)
		Total(x)
		Merge(x, y)
		Merge(x, x)
		Merge(x, nil)
		Merge(nil, x)
		Parted(x, 5)
		Spread(x, z)
		if !slices.Equal(a, wasA) || !slices.Equal(b, wasB) || !slices.Equal(days, wasDays) {
			t.Fatalf("%v, %v, %v; want %v, %v, %v", a, b, days, wasA, wasB, wasDays)
		}
	}
}

// scribble writes over all of a list, its spare room too.
func scribble[T any](l []T, x T) {
	l = l[:cap(l)]
	for i := range l {
		l[i] = x
	}
}

// Rule 4: an answer is new memory, its spare room too: to change one changes neither an argument nor another answer.
func TestAnswersNew(t *testing.T) {
	for _, b := range [][]Flow{nil, {}, {{3, -5}}, {{4, 1}, {8, 2}}} {
		for _, day := range []int{0, 3, 5, 7, 20} {
			a, days := []Flow{{3, 5}, {7, -2}, {9, 1}, {11, 0}}, []int{3, 8, 20}
			wasA, wasB, wasDays := slices.Clone(a), slices.Clone(b), slices.Clone(days)
			again, _ := Merge(a, b)
			wasAgain := slices.Clone(again)
			m, _ := Merge(a, b)
			n, _ := Merge(b, a)
			s, _ := Spread(a, days)
			upto, behind := Parted(a, day)
			wasBehind := slices.Clone(behind)
			scribble(m, Flow{-1, -1})
			scribble(n, Flow{-2, -2})
			scribble(s, -3)
			scribble(upto, Flow{-4, -4})
			if !slices.Equal(behind, wasBehind) || !slices.Equal(again, wasAgain) {
				t.Errorf("%v, %v; want %v, %v", behind, again, wasBehind, wasAgain)
			}
			scribble(behind, Flow{-5, -5})
			if !slices.Equal(a, wasA) || !slices.Equal(b, wasB) || !slices.Equal(days, wasDays) {
				t.Errorf("%v, %v, %v; want %v, %v, %v", a, b, days, wasA, wasB, wasDays)
			}
			_, behind = Parted(a, day)
			upto, _ = Parted(a, day)
			wasUpto := slices.Clone(upto)
			scribble(behind, Flow{-6, -6})
			if !slices.Equal(upto, wasUpto) {
				t.Errorf("%v, want %v", upto, wasUpto)
			}
		}
	}
}

// Rule 4: the second part changed, the first one of the same answer stays.
func TestPartedApart(t *testing.T) {
	for times := range 20 {
		l := rising(1, 1, times, 1)
		for day := range times + 1 {
			upto, behind := Parted(l, day)
			wasUpto, wasBehind := slices.Clone(upto), slices.Clone(behind)
			scribble(behind, Flow{-1, -1})
			if !slices.Equal(upto, wasUpto) {
				t.Errorf("%v, want %v", upto, wasUpto)
			}
			copy(behind, wasBehind)
			scribble(upto, Flow{-2, -2})
			if !slices.Equal(behind, wasBehind) {
				t.Errorf("%v, want %v", behind, wasBehind)
			}
		}
	}
}

// The generic merge takes whatever has an order by days, and hands what is joined on in the order of the rows.
func TestMergeOfTexts(t *testing.T) {
	byLength := func(s string) int { return len(s) }
	join := func(x, y string) string { return x[:1] + y[1:] }
	got := merge([]string{"a", "aaa", "aaaa"}, []string{"bb", "bbb", "bbbbb", "bbbbbb"}, byLength, join)
	if want := []string{"a", "bb", "abb", "aaaa", "bbbbb", "bbbbbb"}; !slices.Equal(got, want) {
		t.Errorf("%v, want %v", got, want)
	}
}

// P1: any numbers, any lengths: each call ends, and beside an error there is nothing.
func TestAnyArguments(t *testing.T) {
	r := rand.New(rand.NewSource(7))
	anything := func() []Flow {
		l := make([]Flow, r.Intn(20))
		if r.Intn(100) == 0 {
			l = make([]Flow, room-1+r.Intn(4))
		}
		for i := range l {
			l[i] = Flow{someInt(r), int64(someInt(r))}
		}
		return l
	}
	for range 20000 {
		a, b := anything(), anything()
		days := make([]int, r.Intn(20))
		for i := range days {
			days[i] = someInt(r)
		}
		checkCheck(t, a, slowCheck(a))
		want, e := slowMerge(a, b)
		checkMerge(t, a, b, want, e)
		sums, e := slowSpread(a, days)
		checkSpread(t, a, days, sums, e)
		n, e := slowTotal(a)
		checkTotal(t, a, n, e)
		day := someInt(r)
		upto, behind := Parted(a, day)
		if len(upto)+len(behind) != len(a) {
			t.Fatalf("Parted of %v, %d: %v, %v", a, day, upto, behind)
		}
	}
}
