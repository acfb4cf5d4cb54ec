package revise

import (
	"math"
	"math/big"
	"math/rand"
	"reflect"
	"slices"
	"testing"

	"lombard/api"
	"lombard/loan"
)

const (
	unit  = api.Unit
	tenth = api.Unit / 10
	rich  = api.MaxMoney
	room  = api.MaxPeriods
	least = math.MinInt64
	most  = math.MaxInt64
	edge  = 1 << 50 // how far from 0 a loan's sums may be, as chapter 12 has it
	ids   = 1 << 31 // the first id that may not be
)

// ask is what a call is asked. Test and CatchUp take the loan and the flows alone.
type ask struct {
	loan  loan.Loan
	id    int
	fair  int64
	flows []int64
}

// answer is what a call answers; what it has none of is zero.
type answer struct {
	worth     int64
	other     bool
	old, next loan.Loan
	amount    int64
	e         api.Errno
}

// call is one of the three, beside the chapter's own words for it.
type call struct {
	name string
	of   func(ask) answer
	slow func(ask) answer
}

func testCall() call {
	return call{"Test", func(a ask) answer {
		worth, other, e := Test(a.loan, a.flows)
		return answer{worth: worth, other: other, e: e}
	}, slowTest}
}

func catchCall() call {
	return call{"CatchUp", func(a ask) answer {
		next, more, e := CatchUp(a.loan, a.flows)
		return answer{next: next, amount: more, e: e}
	}, slowCatchUp}
}

func replaceCall() call {
	return call{"Replace", func(a ask) answer {
		old, next, gain, e := Replace(a.loan, a.id, a.fair, a.flows)
		return answer{old: old, next: next, amount: gain, e: e}
	}, slowReplace}
}

func calls() []call {
	return []call{testCall(), catchCall(), replaceCall()}
}

// slowDiscount is layer 3's, in numbers of any size: to the nearer one, to the even one of two.
func slowDiscount(x *big.Int, r int64) *big.Int {
	by := big.NewInt(unit + r)
	n, rest := new(big.Int).DivMod(new(big.Int).Mul(x, big.NewInt(unit)), by, new(big.Int))
	half := rest.Lsh(rest, 1).Cmp(by)
	if half > 0 || half == 0 && n.Bit(0) == 1 {
		n.Add(n, big.NewInt(1))
	}
	return n
}

// slowWorth is chapter 9's Of, of amounts and a rate that may be, word by word.
func slowWorth(flows []int64, r int64) (int64, api.Errno) {
	bound := new(big.Int).Lsh(big.NewInt(1), 62)
	worth := new(big.Int)
	for _, n := range slices.Backward(flows) {
		worth = slowDiscount(worth.Add(worth, big.NewInt(n)), r)
		if worth.CmpAbs(bound) > 0 {
			return 0, api.ErrOver
		}
	}
	return worth.Int64(), api.OK
}

// slowAhead is what stands ahead of the chapter's promises.
func slowAhead(l loan.Loan) api.Errno {
	if !loan.Right(l) {
		return api.ErrArg
	}
	if l.State != 1 {
		return api.ErrState
	}
	return api.OK
}

// slowTest is P13.1 word by word.
func slowTest(a ask) answer {
	if e := slowAhead(a.loan); e != api.OK {
		return answer{e: e}
	}
	if len(a.flows) < 1 || len(a.flows) > 600 || slices.Min(a.flows) < 0 || slices.Max(a.flows) > 10000000000000 {
		return answer{e: api.ErrArg}
	}
	worth, e := slowWorth(a.flows, a.loan.Rate)
	if e != api.OK {
		return answer{e: e}
	}
	gross := big.NewInt(a.loan.Gross)
	between := new(big.Int).Sub(big.NewInt(worth), gross)
	ten := between.Mul(between.Abs(between), big.NewInt(10))
	return answer{worth: worth, other: ten.Cmp(gross) >= 0}
}

// slowCatchUp is P13.2 word by word.
func slowCatchUp(a ask) answer {
	tested := slowTest(a)
	if tested.e != api.OK {
		return answer{e: tested.e}
	}
	if tested.worth < 1 {
		return answer{e: api.ErrArg}
	}
	next := a.loan
	more := tested.worth - a.loan.Gross
	next.Gross = tested.worth
	next.Adjusted = a.loan.Adjusted + more
	next.Left = a.flows
	next.Due, next.Behind = 0, 0
	if !loan.Right(next) {
		return answer{e: api.ErrOver}
	}
	return answer{next: next, amount: more}
}

// slowReplace is P13.3 word by word.
func slowReplace(a ask) answer {
	if e := slowAhead(a.loan); e != api.OK {
		return answer{e: e}
	}
	next, e := loan.New(a.id, a.fair, a.flows)
	if e != api.OK {
		return answer{e: e}
	}
	old := a.loan
	old.Gross, old.Adjusted = 0, a.loan.Adjusted-a.loan.Gross
	old.State, old.Left, old.Due, old.Behind = 4, nil, 0, 0
	if !loan.Right(old) {
		return answer{e: api.ErrOver}
	}
	return answer{old: old, next: next, amount: a.fair - a.loan.Gross}
}

// same says whether two loans are one; nil and empty are.
func same(a, b loan.Loan) bool {
	alike := slices.Equal(a.Left, b.Left)
	a.Left, b.Left = nil, nil
	return alike && reflect.DeepEqual(a, b)
}

func sameAnswer(a, b answer) bool {
	return a.worth == b.worth && a.other == b.other && same(a.old, b.old) && same(a.next, b.next) && a.amount == b.amount && a.e == b.e
}

// copied is what is asked, in memory of its own.
func copied(a ask) ask {
	a.loan.Left, a.flows = slices.Clone(a.loan.Left), slices.Clone(a.flows)
	return a
}

// short is what is asked in few words, for a test that fails.
func short(a ask) ask {
	a.loan.Left, a.flows = a.loan.Left[:min(len(a.loan.Left), 9)], a.flows[:min(len(a.flows), 9)]
	return a
}

// shortAnswer is likewise of an answer.
func shortAnswer(a answer) answer {
	a.next.Left = a.next.Left[:min(len(a.next.Left), 9)]
	return a
}

// check holds a call against an answer and against the chapter word by word, and sees that what is handed in stays.
func check(t *testing.T, c call, a ask, want answer) {
	t.Helper()
	if slow := c.slow(a); !sameAnswer(slow, want) {
		t.Fatalf("the test is wrong: %s of %+v: %+v", c.name, short(a), shortAnswer(slow))
	}
	was := copied(a)
	got := c.of(a)
	if !sameAnswer(got, want) {
		t.Fatalf("%s of %+v (%d flows):\n%+v; want\n%+v", c.name, short(a), len(a.flows), shortAnswer(got), shortAnswer(want))
	}
	if !same(a.loan, was.loan) || !slices.Equal(a.flows, was.flows) {
		t.Fatalf("%s changed %+v to %+v", c.name, short(was), short(a))
	}
	if got.e != api.OK {
		return
	}
	for _, l := range []loan.Loan{got.old, got.next} {
		if l.State != 0 && !loan.Right(l) {
			t.Fatalf("%s of %+v answers a loan that isn't right: %+v", c.name, short(a), l)
		}
	}
}

// checkSlow holds a call against the chapter word by word alone.
func checkSlow(t *testing.T, c call, a ask) api.Errno {
	t.Helper()
	want := c.slow(a)
	check(t, c, a, want)
	return want.e
}

func checkRefused(t *testing.T, c call, a ask, e api.Errno) {
	t.Helper()
	check(t, c, a, answer{e: e})
}

// checkTaken sees that what is asked is no error, and is answered by the chapter word by word.
func checkTaken(t *testing.T, c call, a ask) answer {
	t.Helper()
	want := c.slow(a)
	if want.e != api.OK {
		t.Fatalf("the test is wrong: %s of %+v: %d", c.name, short(a), want.e)
	}
	check(t, c, a, want)
	return want
}

// halfway is a loan in which each part is another number.
func halfway() loan.Loan {
	return loan.Loan{Id: 7, State: loan.Live, Behind: 2, Outlay: 1000, Rate: tenth, Gross: 900, Due: 30, Income: 250, Received: 300, Adjusted: -20, Written: 30, Recovered: 40, Left: []int64{100, 200, 300}}
}

// over is a loan that carries nothing, in a State.
func over(state int) loan.Loan {
	return loan.Loan{Id: 8, State: state, Outlay: 1000, Rate: tenth, Income: 250, Received: 1100, Adjusted: -20, Written: 130, Recovered: 40}
}

// carrying is a Live loan that is carried at an amount, at a rate.
func carrying(gross, r int64) loan.Loan {
	l := halfway()
	l.Rate, l.Gross = r, gross
	return fitted(l)
}

// fitted is a loan whose Adjusted is what its Gross asks for.
func fitted(l loan.Loan) loan.Loan {
	l.Adjusted = l.Gross - l.Outlay - l.Income + l.Received + l.Written
	return l
}

// usual is what each call takes.
func usual() ask {
	return ask{halfway(), 9, 950, []int64{500, 605}}
}

// summing is flows that are worth an amount at the rate 0: as many of MaxMoney as it takes, and the rest.
func summing(n int64) []int64 {
	return append(slices.Repeat([]int64{rich}, int(n/rich)), n%rich)
}

func wrongFlows() []int64 {
	return []int64{-1, -2, rich + 1, rich + 2, edge, -edge, least, least + 1, most - 1, most}
}

func wrongIds() []int {
	return []int{-1, -2, ids, ids + 1, 1 << 32, 1<<32 + 1, -1 << 31, -1 << 32, least, least + 1, most - 1, most}
}

// someAmount may be; of any width, so that small ones come too.
func someAmount(r *rand.Rand) int64 {
	return r.Int63n(rich+1) >> r.Intn(44)
}

func someAmounts(r *rand.Rand, length int) []int64 {
	l := make([]int64, length)
	for i := range l {
		l[i] = someAmount(r)
	}
	return l
}

// someNumber is any of 64 bits, those at the edges often.
func someNumber(r *rand.Rand) int64 {
	edges := []int64{0, 1, 2, 3, 4, room, rich, -rich, edge, -edge, least, most, api.MinRate, api.MaxRate, ids}
	if r.Intn(2) == 0 {
		return edges[r.Intn(len(edges))] + int64(r.Intn(3)-1) // beyond the last of 64 bits it goes round, to another edge
	}
	return int64(r.Uint64()) >> r.Intn(64)
}
