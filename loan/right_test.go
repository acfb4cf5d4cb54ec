package loan

import (
	"math/rand"
	"slices"
	"testing"

	"lombard/api"
	"lombard/eir"
)

// farNumbers are what none of a loan's parts may be.
func farNumbers() []int64 {
	return []int64{least, least + 1, -1 << 62, -1 << 51, -edge - 2, edge + 2, 1 << 51, 1 << 62, most - 1, most}
}

// part is one part of a loan: how it is put, so that the loan is right otherwise; and its bounds.
type part struct {
	name      string
	put       func(l *Loan, n int64)
	low, high int64
}

// fitIncome is as fitted, by Income.
func fitIncome(l *Loan) {
	l.Income = l.Gross - l.Outlay - l.Adjusted + l.Received + l.Written
}

func parts() []part {
	fit := func(l *Loan) { *l = fitted(*l) }
	return []part{
		{"Id", func(l *Loan, n int64) { l.Id = int(n) }, 0, ids - 1},
		{"Behind", func(l *Loan, n int64) { l.Behind = int(n) }, 0, room},
		{"Outlay", func(l *Loan, n int64) { l.Outlay = n; fit(l) }, 1, rich},
		{"Rate", func(l *Loan, n int64) { l.Rate = n }, api.MinRate, api.MaxRate},
		{"Gross", func(l *Loan, n int64) { l.Gross = n; fit(l) }, 0, edge},
		{"Due", func(l *Loan, n int64) { l.Due = n }, -edge, edge},
		{"Income", func(l *Loan, n int64) {
			l.Income = n
			if n < 0 {
				l.Gross = 0 // or what is Adjusted would be beyond its bound
			}
			fit(l)
		}, -edge, edge},
		{"Received", func(l *Loan, n int64) { l.Received = n; fit(l) }, 0, edge},
		{"Adjusted", func(l *Loan, n int64) {
			l.Adjusted = n
			if n < 0 {
				l.Gross = 0
			}
			fitIncome(l)
		}, -edge, edge},
		{"Written", func(l *Loan, n int64) { l.Written = n; fit(l) }, 0, edge},
		{"Recovered", func(l *Loan, n int64) { l.Recovered = n }, 0, edge},
		{"the first Left", func(l *Loan, n int64) { l.Left[0] = n }, 0, rich},
		{"the last Left", func(l *Loan, n int64) { l.Left[2] = n }, 0, rich},
	}
}

// P12.1 Right: loans as they come, by hand.
func TestRightNamed(t *testing.T) {
	checkRight(t, halfway(), true)
	checkRight(t, Loan{State: Live, Outlay: 1, Gross: 1}, true)
	checkRight(t, Loan{State: Live, Outlay: 1, Gross: 1, Left: []int64{}}, true)
	checkRight(t, Loan{State: Live, Outlay: 100, Gross: 100, Left: []int64{105}}, true)
	checkRight(t, Loan{State: Live, Outlay: 100, Income: 5, Received: 105}, true) // nothing is carried, but it hasn't ended
	checkRight(t, Loan{State: Paid, Outlay: 100, Income: 5, Received: 105}, true)
	checkRight(t, Loan{State: Off, Outlay: 100, Income: 5, Received: 65, Written: 40, Recovered: 7}, true)
	checkRight(t, Loan{State: Gone, Outlay: 100, Income: 5, Adjusted: -105}, true)
	checkRight(t, Loan{}, false)
	checkRight(t, Loan{State: Live}, false)
	checkRight(t, Loan{State: Live, Outlay: 1}, false)
	checkRight(t, Loan{Outlay: 1, Gross: 1}, false)
}

// P12.1 Right: each part at each of its bounds, and one within; one beyond it, and far.
func TestRightBounds(t *testing.T) {
	for _, p := range parts() {
		t.Run(p.name, func(t *testing.T) {
			for _, n := range []int64{p.low, p.low + 1, p.high - 1, p.high} {
				l := halfway()
				p.put(&l, n)
				checkRight(t, l, true)
			}
			for _, n := range append(farNumbers(), p.low-1, p.high+1) {
				l := halfway()
				p.put(&l, n)
				checkRight(t, l, false)
			}
		})
	}
}

// P12.1 Right: two parts beyond their bounds by as much, or by so much that the sum goes round, are not right together.
func TestRightTwoBeyond(t *testing.T) {
	for _, n := range []int64{least, least + 1, -1 << 62, -1 << 52, 1 << 52, 1 << 62, most - 1, most} {
		l := halfway()
		l.Income, l.Adjusted = l.Income+n, l.Adjusted-n
		checkRight(t, l, false)
		l = halfway()
		l.Received, l.Written = l.Received+n, l.Written-n
		checkRight(t, l, false)
		l = halfway()
		l.Gross, l.Income = l.Gross+n, l.Income+n
		checkRight(t, l, false)
	}
}

// P12.1 Right: each of the four States, of a loan that carries nothing and of one that does; and none beside them.
func TestRightStates(t *testing.T) {
	for _, state := range []int{Live, Paid, Off, Gone} {
		checkRight(t, over(state), true)
		l := halfway()
		l.State = state
		checkRight(t, l, state == Live)
	}
	for _, state := range []int{0, 5, -1, -2, 6, 1 << 31, least, most} {
		checkRight(t, over(state), false)
		l := halfway()
		l.State = state
		checkRight(t, l, false)
	}
}

// P12.1 Right: of a State other than Live a Gross, a Due or a Left alone is wrong; what it is Behind isn't asked.
func TestRightEnded(t *testing.T) {
	for _, state := range []int{Live, Paid, Off, Gone} {
		for _, gross := range []int64{1, 2, rich, edge} {
			checkRight(t, with(over(state), func(l *Loan) { l.Gross = gross }), state == Live)
		}
		for _, due := range []int64{1, -1, edge, -edge} {
			checkRight(t, with(over(state), func(l *Loan) { l.Due = due }), state == Live)
		}
		for _, left := range [][]int64{{0}, {1}, {rich}, make([]int64, room)} {
			checkRight(t, with(over(state), func(l *Loan) { l.Left = left }), state == Live)
		}
		for _, left := range [][]int64{nil, {}, make([]int64, 0, 5)} {
			checkRight(t, with(over(state), func(l *Loan) { l.Left = left }), true)
		}
		for _, behind := range []int{0, 1, room} {
			checkRight(t, with(over(state), func(l *Loan) { l.Behind = behind }), true)
		}
	}
}

// P12.1 Right: Gross is Outlay, Income and Adjusted, less Received and Written: one more or less of one of these is wrong. Recovered and Due don't count.
func TestRightSum(t *testing.T) {
	for _, l := range []Loan{halfway(), over(Live)} {
		for _, by := range []int64{1, -1, 2, -2, 100, 1 << 32} {
			for _, put := range []func(*Loan){
				func(l *Loan) { l.Gross += by },
				func(l *Loan) { l.Outlay += by },
				func(l *Loan) { l.Income += by },
				func(l *Loan) { l.Adjusted += by },
				func(l *Loan) { l.Received += by },
				func(l *Loan) { l.Written += by },
			} {
				x := l
				put(&x)
				checkRight(t, x, false)
			}
		}
		l.Recovered, l.Due = l.Recovered+9, l.Due+9
		checkRight(t, l, true)
	}
}

// P12.1 Right: as many Left as there may be, and one more; a wrong one at each place.
func TestRightLeft(t *testing.T) {
	for _, n := range []int64{0, 1, rich} {
		for _, length := range []int{0, 1, room - 1, room, room + 1, room + 2, 1 << 16} {
			l := halfway()
			l.Left = slices.Repeat([]int64{n}, length)
			checkRight(t, l, length <= room)
		}
	}
	for at := range room {
		for _, wrong := range []int64{-1, rich + 1, least, most} {
			l := halfway()
			l.Left = slices.Repeat([]int64{5}, room)
			l.Left[at] = wrong
			checkRight(t, l, false)
		}
	}
}

// P12.1 Right, P1: any numbers, against the chapter's own words; some of them fitted, so that they aren't all refused for that.
func TestRightAny(t *testing.T) {
	r := rand.New(rand.NewSource(1))
	right := 0
	for range 50000 {
		l := someLoan(r, someNumber)
		if r.Intn(4) > 0 {
			l = fitted(l)
		}
		checkRight(t, l, slowRight(l))
	}
	for range 20000 {
		l := halfway()
		for range r.Intn(4) {
			all := parts()
			all[r.Intn(len(all))].put(&l, someNumber(r))
		}
		if slowRight(l) {
			right++
		}
		checkRight(t, l, slowRight(l))
	}
	if right < 2000 {
		t.Error("too few are right:", right)
	}
}

// someLoan is one of any numbers.
func someLoan(r *rand.Rand, number func(*rand.Rand) int64) Loan {
	l := Loan{Id: int(number(r)), State: r.Intn(6), Behind: int(number(r)), Outlay: number(r), Rate: number(r), Gross: number(r), Due: number(r), Income: number(r), Received: number(r), Adjusted: number(r), Written: number(r), Recovered: number(r)}
	for range r.Intn(4) {
		l.Left = append(l.Left, number(r))
	}
	return l
}

func checkNew(t *testing.T, id int, outlay int64, flows []int64, want Loan, wantE api.Errno) {
	t.Helper()
	was := slices.Clone(flows)
	l, e := New(id, outlay, flows)
	if !same(l, want) || e != wantE {
		t.Fatalf("New of %d, %d, %d: %v: %+v, %d; want %+v, %d", id, outlay, len(flows), flows[:min(len(flows), 12)], told(l), e, told(want), wantE)
	}
	if !slices.Equal(flows, was) {
		t.Fatalf("New of %d, %d changed %v to %v", id, outlay, was, flows)
	}
	checkRight(t, l, wantE == api.OK)
}

// P12.1 New: by hand, the document's example first: a Live loan of that Outlay, carried at that, at the rate that layer 10 solves, these flows Left, and nothing else.
func TestNewNamed(t *testing.T) {
	for _, x := range []struct {
		id     int
		outlay int64
		flows  []int64
		r      int64
	}{
		{1, 1000, []int64{500, 605}, 67007168348},
		{0, 100, []int64{105}, 50005250026},
		{ids - 1, 1000, []int64{100, 100, 1100}, 100000550000},
		{5, 1000, []int64{0, 0, 1331}, 0},
		{5, 1000, []int64{400, 500}, 0},
		{5, rich, slices.Repeat([]int64{rich / 300}, room), 0},
		{5, rich, []int64{rich}, 0},
		{5, 1, []int64{1}, 0},
	} {
		solved, e := eir.Solve(x.outlay, x.flows)
		if e != api.OK || !eir.Fits(x.outlay, x.flows, solved) || x.r != 0 && solved != x.r {
			t.Fatalf("the test is wrong: %d, %v: %d, %d", x.outlay, x.flows, solved, e)
		}
		checkNew(t, x.id, x.outlay, x.flows, Loan{Id: x.id, State: Live, Outlay: x.outlay, Rate: solved, Gross: x.outlay, Left: x.flows}, api.OK)
	}
}

// P12.1 New: ids at the bounds, beyond and far.
func TestNewIds(t *testing.T) {
	for _, id := range []int{0, 1, ids - 2, ids - 1} {
		r, _ := eir.Solve(100, []int64{105})
		checkNew(t, id, 100, []int64{105}, Loan{Id: id, State: Live, Outlay: 100, Rate: r, Gross: 100, Left: []int64{105}}, api.OK)
	}
	for _, id := range wrongIds() {
		checkNew(t, id, 100, []int64{105}, Loan{}, api.ErrArg)
	}
}

func wrongIds() []int {
	return []int{-1, -2, ids, ids + 1, 1 << 32, 1<<32 + 1, -1 << 31, -1 << 32, least, least + 1, most - 1, most}
}

func wrongFlows() []int64 {
	return []int64{-1, -2, rich + 1, rich + 2, 1 << 50, -1 << 50, least, least + 1, most - 1, most}
}

// P12.1 New: layer 10's ErrArg: no flows, nil and empty, whatever lies behind them; none above 0; one more than there may be; a wrong one at each place; a wrong outlay.
func TestNewArg(t *testing.T) {
	for _, flows := range [][]int64{nil, {}, make([]int64, 0, 5), []int64{105, 5}[:0], {0}, {0, 0}, make([]int64, room), slices.Repeat([]int64{5}, room+1), slices.Repeat([]int64{5}, 1<<16)} {
		for _, outlay := range []int64{1, 100, rich} {
			checkNew(t, 1, outlay, flows, Loan{}, api.ErrArg)
		}
	}
	for _, length := range []int{1, 2, 3, room} {
		for at := range length {
			for _, wrong := range wrongFlows() {
				flows := slices.Repeat([]int64{50}, length)
				flows[at] = wrong
				checkNew(t, 1, 40, flows, Loan{}, api.ErrArg)
			}
		}
	}
	for _, outlay := range append(wrongFlows(), 0) {
		checkNew(t, 1, outlay, []int64{105}, Loan{}, api.ErrArg)
		checkNew(t, 1, outlay, []int64{500, 605}, Loan{}, api.ErrArg)
	}
}

// P12.1 New: layer 10's ErrBracket: flows that don't cover the outlay at the least rate, and that do at the greatest; one beside each that is solved.
func TestNewBracket(t *testing.T) {
	for _, x := range []struct {
		outlay, flow int64
		e            api.Errno
	}{
		{1000, 1, api.ErrBracket},
		{1000, 9, api.ErrBracket},
		{1000, 10, api.OK},
		{1000, 10999, api.OK},
		{1000, 11000, api.ErrBracket},
		{1, rich, api.ErrBracket},
		{rich, 1, api.ErrBracket},
	} {
		l, e := New(3, x.outlay, []int64{x.flow})
		if e != x.e || (e != api.OK) != same(l, Loan{}) {
			t.Errorf("%d, %d: %+v, %d; want %d", x.outlay, x.flow, l, e, x.e)
		}
	}
}

// P12.1 New: a wrong id comes ahead of what layer 10 says; a wrong id, a wrong outlay and wrong flows together are ErrArg, too.
func TestNewFirst(t *testing.T) {
	checkNew(t, 1, 1000, []int64{1}, Loan{}, api.ErrBracket)
	for _, id := range wrongIds() {
		checkNew(t, id, 1000, []int64{1}, Loan{}, api.ErrArg)
		checkNew(t, id, 1, []int64{rich}, Loan{}, api.ErrArg)
		for _, outlay := range []int64{0, -1, rich + 1, least, most} {
			checkNew(t, id, outlay, nil, Loan{}, api.ErrArg)
			checkNew(t, id, outlay, []int64{1}, Loan{}, api.ErrArg)
			checkNew(t, id, outlay, []int64{105, least}, Loan{}, api.ErrArg)
		}
	}
}

// P12.1 New, P1: any numbers, against layer 10.
func TestNewAny(t *testing.T) {
	r := rand.New(rand.NewSource(2))
	made := 0
	for i := range 1500 {
		id, outlay, flows := r.Intn(ids), max(someAmount(r), 1), someAmounts(r, 1+r.Intn(9))
		if i%3 == 0 {
			id, outlay = int(someNumber(r)), someNumber(r)
			flows[r.Intn(len(flows))] = someNumber(r)
		}
		rate, e := eir.Solve(outlay, flows)
		want := Loan{Id: id, State: Live, Outlay: outlay, Rate: rate, Gross: outlay, Left: flows}
		if id < 0 || id >= ids {
			e = api.ErrArg
		}
		if e != api.OK {
			want = Loan{}
		} else {
			made++
		}
		checkNew(t, id, outlay, flows, want, e)
	}
	if made < 300 {
		t.Error("too few are made:", made)
	}
}
