package loan

import (
	"math"
	"math/big"
	"math/rand"
	"reflect"
	"slices"
	"testing"

	"lombard/api"
)

const (
	unit  = api.Unit
	tenth = api.Unit / 10
	rich  = api.MaxMoney
	room  = api.MaxPeriods
	least = math.MinInt64
	most  = math.MaxInt64
	edge  = 1 << 50 // how far from 0 a loan's sums may be, as the chapter has it
	ids   = 1 << 31 // the first id that may not be
)

// call is one of the four that make a step of a loan, beside the chapter's own words for it.
type call struct {
	name  string
	of    func(Loan, int64) (Loan, Move, api.Errno)
	slow  func(Loan, int64) (Loan, Move, api.Errno)
	from  int64 // the least amount
	state int   // the State that is asked
}

func calls() []call {
	return []call{
		{"Step", Step, slowStep, 0, Live},
		{"Pay", Pay, slowPay, 0, Live},
		{"Write", Write, slowWrite, 1, Live},
		{"Recover", Recover, slowRecover, 1, Off},
	}
}

// slowInterest is layer 3's, in numbers of any size: to the nearer one, to the even one of two.
func slowInterest(x, r int64) int64 {
	by := big.NewInt(unit)
	n, rest := new(big.Int).DivMod(new(big.Int).Mul(big.NewInt(x), big.NewInt(r)), by, new(big.Int))
	half := rest.Lsh(rest, 1).Cmp(by)
	if half > 0 || half == 0 && n.Bit(0) == 1 {
		n.Add(n, big.NewInt(1))
	}
	return n.Int64()
}

// slowRight is what the chapter says of a loan that is right, word by word, in numbers of any size.
func slowRight(l Loan) bool {
	from := func(low, high int64, all ...int64) bool { return slices.Min(all) >= low && slices.Max(all) <= high }
	if !from(0, 2147483647, int64(l.Id)) || !slices.Contains([]int{1, 2, 3, 4}, l.State) || !from(0, 600, int64(l.Behind)) {
		return false
	}
	if !from(1, 10000000000000, l.Outlay) || !from(-990000000000, 10000000000000, l.Rate) {
		return false
	}
	if !from(0, 1125899906842624, l.Gross, l.Received, l.Written, l.Recovered) || !from(-1125899906842624, 1125899906842624, l.Due, l.Income, l.Adjusted) {
		return false
	}
	if l.State != 1 && (l.Gross != 0 || l.Due != 0 || len(l.Left) != 0) {
		return false
	}
	if len(l.Left) > 600 || len(l.Left) > 0 && !from(0, 10000000000000, l.Left...) {
		return false
	}
	all := new(big.Int)
	for _, n := range []int64{l.Outlay, l.Income, l.Adjusted} {
		all.Add(all, big.NewInt(n))
	}
	for _, n := range []int64{l.Received, l.Written} {
		all.Sub(all, big.NewInt(n))
	}
	return all.Cmp(big.NewInt(l.Gross)) == 0
}

// slowAsks is what is asked of all steps.
func slowAsks(l Loan, amount, from int64, state int) api.Errno {
	if !slowRight(l) || amount < from || amount > 10000000000000 {
		return api.ErrArg
	}
	if l.State != state {
		return api.ErrState
	}
	return api.OK
}

// slowEnd refuses what is too great; a Gross below 0 was refused ahead of it.
func slowEnd(l Loan, m Move) (Loan, Move, api.Errno) {
	if !slowRight(l) {
		return Loan{}, Move{}, api.ErrOver
	}
	return l, m, api.OK
}

// slowStep is P12.2 word by word. A loan that is right is too small for any sum here to go round.
func slowStep(l Loan, paid int64) (Loan, Move, api.Errno) {
	if e := slowAsks(l, paid, 0, 1); e != api.OK {
		return Loan{}, Move{}, e
	}
	if len(l.Left) == 0 {
		return Loan{}, Move{}, api.ErrState
	}
	next := l
	next.Left = slices.Clone(l.Left[1:])
	next.Due = l.Due + l.Left[0] - paid
	next.Behind = 0
	if next.Due > 0 {
		next.Behind = min(l.Behind+1, 600)
	}
	interest := slowInterest(l.Gross, l.Rate)
	if len(next.Left) == 0 && next.Due <= 0 {
		interest = paid - l.Gross
		next.State, next.Due, next.Behind = 2, 0, 0
	}
	next.Gross = l.Gross + interest - paid
	if next.Gross < 0 {
		return Loan{}, Move{}, api.ErrArg
	}
	next.Income = l.Income + interest
	next.Received = l.Received + paid
	return slowEnd(next, Move{Interest: interest, Paid: paid})
}

// slowPay is P12.3 word by word.
func slowPay(l Loan, paid int64) (Loan, Move, api.Errno) {
	if e := slowAsks(l, paid, 0, 1); e != api.OK {
		return Loan{}, Move{}, e
	}
	next := l
	next.Due = l.Due - paid
	next.Received = l.Received + paid
	next.Gross = l.Gross - paid
	if next.Due <= 0 {
		next.Behind = 0
	}
	if len(l.Left) == 0 && next.Due <= 0 {
		interest := paid - l.Gross
		next.State, next.Due, next.Behind = 2, 0, 0
		next.Gross += interest
		next.Income += interest
		return slowEnd(next, Move{Interest: interest, Paid: paid})
	}
	if next.Gross < 0 {
		return Loan{}, Move{}, api.ErrArg
	}
	return slowEnd(next, Move{Paid: paid})
}

// slowWrite is P12.4's of Write, word by word.
func slowWrite(l Loan, amount int64) (Loan, Move, api.Errno) {
	if e := slowAsks(l, amount, 1, 1); e != api.OK {
		return Loan{}, Move{}, e
	}
	if amount > l.Gross {
		return Loan{}, Move{}, api.ErrArg
	}
	next := l
	next.Gross = l.Gross - amount
	next.Written = l.Written + amount
	if next.Gross == 0 {
		next.State, next.Left, next.Due, next.Behind = 3, nil, 0, 0
	}
	return slowEnd(next, Move{Written: amount})
}

// slowRecover is P12.4's of Recover, word by word.
func slowRecover(l Loan, amount int64) (Loan, Move, api.Errno) {
	if e := slowAsks(l, amount, 1, 3); e != api.OK {
		return Loan{}, Move{}, e
	}
	next := l
	next.Recovered = l.Recovered + amount
	return slowEnd(next, Move{Recovered: amount})
}

// same says whether two loans are one; nil and empty are.
func same(a, b Loan) bool {
	alike := slices.Equal(a.Left, b.Left)
	a.Left, b.Left = nil, nil
	return alike && reflect.DeepEqual(a, b)
}

// clone is a loan in memory of its own.
func clone(l Loan) Loan {
	l.Left = slices.Clone(l.Left)
	return l
}

// told is a loan in short, for a test that fails.
func told(l Loan) Loan {
	l.Left = l.Left[:min(len(l.Left), 12)]
	return l
}

func checkRight(t *testing.T, l Loan, want bool) {
	t.Helper()
	if slow := slowRight(l); slow != want {
		t.Fatalf("the test is wrong: %+v is right: %v", told(l), slow)
	}
	if Right(l) != want {
		t.Fatalf("Right of %+v (%d Left): %v", told(l), len(l.Left), !want)
	}
}

// checkCall holds what a call answers against a loan, a move and an error, and sees that the loan that is handed in stays.
func checkCall(t *testing.T, c call, l Loan, amount int64, want Loan, wantM Move, wantE api.Errno) {
	t.Helper()
	was := clone(l)
	next, m, e := c.of(l, amount)
	if !same(next, want) || m != wantM || e != wantE {
		t.Fatalf("%s of %d, %+v (%d Left):\n%+v (%d), %+v, %d; want\n%+v (%d), %+v, %d", c.name, amount, told(l), len(l.Left), told(next), len(next.Left), m, e, told(want), len(want.Left), wantM, wantE)
	}
	if !same(l, was) {
		t.Fatalf("%s of %d changed %+v to %+v", c.name, amount, told(was), told(l))
	}
	if e != api.OK && (next.Left != nil || !same(next, Loan{})) {
		t.Fatalf("%s of %d: %+v beside %d", c.name, amount, told(next), e)
	}
}

// checkSlow holds a call against the chapter word by word.
func checkSlow(t *testing.T, c call, l Loan, amount int64) api.Errno {
	t.Helper()
	want, wantM, wantE := c.slow(l, amount)
	checkCall(t, c, l, amount, want, wantM, wantE)
	return wantE
}

func checkRefused(t *testing.T, c call, l Loan, amount int64, want api.Errno) {
	t.Helper()
	checkCall(t, c, l, amount, Loan{}, Move{}, want)
	if e := checkSlow(t, c, l, amount); e != want {
		t.Fatalf("the test is wrong: %s of %d, %+v: %d", c.name, amount, told(l), e)
	}
}

func checkDone(t *testing.T, c call, l Loan, amount int64, want Loan, wantM Move) {
	t.Helper()
	checkCall(t, c, l, amount, want, wantM, api.OK)
	if e := checkSlow(t, c, l, amount); e != api.OK {
		t.Fatalf("the test is wrong: %s of %d, %+v: %d", c.name, amount, told(l), e)
	}
	checkRight(t, want, true)
}

// bound is a loan, and an amount, by which one of its sums comes to its bound; and how that loan, or the amount, is changed, so that it comes one beyond it.
type bound struct {
	name   string
	loan   Loan
	amount int64
	change func(*Loan)
	more   int64
}

func checkBounds(t *testing.T, c call, bounds []bound) {
	t.Helper()
	for _, x := range bounds {
		t.Run(x.name, func(t *testing.T) {
			want, wantM, e := c.slow(x.loan, x.amount)
			if e != api.OK {
				t.Fatal("the test is wrong:", e)
			}
			checkDone(t, c, x.loan, x.amount, want, wantM)
			beyond := clone(x.loan)
			if x.change != nil {
				x.change(&beyond)
			}
			checkRefused(t, c, beyond, x.amount+x.more, api.ErrOver)
		})
	}
}

// halfway is a loan in which each part is another number.
func halfway() Loan {
	return Loan{Id: 7, State: Live, Behind: 2, Outlay: 1000, Rate: tenth, Gross: 900, Due: 30, Income: 250, Received: 300, Adjusted: -20, Written: 30, Recovered: 40, Left: []int64{100, 200, 300}}
}

// over is a loan that came to its end, in a State.
func over(state int) Loan {
	return Loan{Id: 8, State: state, Outlay: 1000, Rate: tenth, Income: 250, Received: 1100, Adjusted: -20, Written: 130, Recovered: 40}
}

// fitted is a loan whose Adjusted is what its Gross asks for.
func fitted(l Loan) Loan {
	l.Adjusted = l.Gross - l.Outlay - l.Income + l.Received + l.Written
	return l
}

// with is a loan, changed, and fitted then.
func with(l Loan, change func(*Loan)) Loan {
	change(&l)
	return fitted(l)
}

// someAmount may be; of any width, so that small ones come too.
func someAmount(r *rand.Rand) int64 {
	return r.Int63n(rich+1) >> r.Intn(44)
}

func someAmounts(r *rand.Rand, length int) []int64 {
	l := make([]int64, length)
	for i := range l {
		l[i] = someAmount(r)
	}
	return l
}

// someNumber is any of 64 bits, those at the edges often.
func someNumber(r *rand.Rand) int64 {
	edges := []int64{0, 1, 2, 3, 4, room, rich, -rich, edge, -edge, least, most, api.MinRate, api.MaxRate, ids}
	if r.Intn(2) == 0 {
		return edges[r.Intn(len(edges))] + int64(r.Intn(3)-1) // beyond the last of 64 bits it goes round, to another edge
	}
	return int64(r.Uint64()) >> r.Intn(64)
}
