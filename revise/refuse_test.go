package revise

import (
	"math/rand"
	"slices"
	"testing"

	"lombard/api"
	"lombard/loan"
)

// part is one part of a loan: how it is put, so that the loan is right otherwise; and its bounds.
type part struct {
	name      string
	put       func(l *loan.Loan, n int64)
	low, high int64
}

// fitIncome is as fitted, by Income.
func fitIncome(l *loan.Loan) {
	l.Income = l.Gross - l.Outlay - l.Adjusted + l.Received + l.Written
}

// parts are all of a loan's but for State. What is put takes Income or Adjusted along, so that the sum stays right.
func parts() []part {
	return []part{
		{"Id", func(l *loan.Loan, n int64) { l.Id = int(n) }, 0, ids - 1},
		{"Behind", func(l *loan.Loan, n int64) { l.Behind = int(n) }, 0, room},
		{"Outlay", func(l *loan.Loan, n int64) { l.Outlay = n; fitIncome(l) }, 1, rich},
		{"Rate", func(l *loan.Loan, n int64) { l.Rate = n }, api.MinRate, api.MaxRate},
		{"Gross", func(l *loan.Loan, n int64) { l.Gross = n; fitIncome(l) }, 0, edge},
		{"Due", func(l *loan.Loan, n int64) { l.Due = n }, -edge, edge},
		{"Income", func(l *loan.Loan, n int64) {
			l.Income = n
			if n < 0 {
				l.Gross = 0 // or what is Adjusted would be beyond its bound
			}
			*l = fitted(*l)
		}, -edge, edge},
		{"Received", func(l *loan.Loan, n int64) { l.Received = n; *l = fitted(*l) }, 0, edge},
		{"Adjusted", func(l *loan.Loan, n int64) {
			l.Adjusted = n
			if n < 0 {
				l.Gross = 0
			}
			fitIncome(l)
		}, -edge, edge},
		{"Written", func(l *loan.Loan, n int64) { l.Written = n; *l = fitted(*l) }, 0, edge},
		{"Recovered", func(l *loan.Loan, n int64) { l.Recovered = n }, 0, edge},
		{"the first Left", func(l *loan.Loan, n int64) { l.Left[0] = n }, 0, rich},
		{"the last Left", func(l *loan.Loan, n int64) { l.Left[2] = n }, 0, rich},
	}
}

// Of all three: a loan whose parts are at their bounds is taken, if it is right then; one that isn't right by one of its parts, one beyond its bounds or far, is ErrArg.
func TestWrongLoan(t *testing.T) {
	for _, p := range parts() {
		t.Run(p.name, func(t *testing.T) {
			right := 0
			for _, n := range []int64{p.low, p.low + 1, p.high - 1, p.high} {
				a := usual()
				p.put(&a.loan, n)
				if !loan.Right(a.loan) {
					continue
				}
				right++
				for _, c := range calls() {
					if e := checkSlow(t, c, a); e != api.OK && e != api.ErrOver {
						t.Errorf("%s at %d: %d", c.name, n, e)
					}
				}
			}
			if right < 3 {
				t.Error("the test is wrong: too few are right:", right)
			}
			for _, n := range []int64{p.low - 1, p.high + 1, least, least + 1, -1 << 62, -1 << 51, 1 << 51, 1 << 62, most - 1, most} {
				a := usual()
				p.put(&a.loan, n)
				for _, c := range calls() {
					checkRefused(t, c, a, api.ErrArg)
				}
			}
		})
	}
}

// Of all three: a loan that isn't right by what is Left, by its sum, by its end, or by all.
func TestWrongLoanOtherwise(t *testing.T) {
	for _, change := range []func(*loan.Loan){
		func(l *loan.Loan) { l.Left = make([]int64, room+1) },
		func(l *loan.Loan) { l.Gross++ },
		func(l *loan.Loan) { l.Gross-- },
		func(l *loan.Loan) { l.Outlay++ },
		func(l *loan.Loan) { l.Income-- },
		func(l *loan.Loan) { l.Adjusted++ },
		func(l *loan.Loan) { l.Received-- },
		func(l *loan.Loan) { l.Written++ },
		func(l *loan.Loan) { l.State = loan.Paid }, // it carries something yet
		func(l *loan.Loan) { l.State = loan.Off },
		func(l *loan.Loan) { l.State = loan.Gone },
		func(l *loan.Loan) { *l = over(loan.Paid); l.Due = 1 },
		func(l *loan.Loan) { *l = over(loan.Gone); l.Left = []int64{0} },
		func(l *loan.Loan) { *l = loan.Loan{} },
		func(l *loan.Loan) { *l = loan.Loan{State: loan.Live} },
	} {
		a := usual()
		change(&a.loan)
		for _, c := range calls() {
			checkRefused(t, c, a, api.ErrArg)
		}
	}
	a := usual()
	a.loan.Left = slices.Repeat([]int64{rich}, room)
	for _, c := range calls() {
		checkTaken(t, c, a)
	}
}

// Of all three: each of the four States, and what is none.
func TestStates(t *testing.T) {
	for _, c := range calls() {
		for _, state := range []int{loan.Live, loan.Paid, loan.Off, loan.Gone} {
			a := usual()
			a.loan = over(state)
			if state == loan.Live {
				checkTaken(t, c, a)
			} else {
				checkRefused(t, c, a, api.ErrState)
			}
		}
		for _, state := range []int{0, 5, -1, 6, ids, least, most} {
			a := usual()
			a.loan = over(state)
			checkRefused(t, c, a, api.ErrArg)
		}
	}
}

// P13.1 and P13.2: no flows, nil and empty, whatever lies behind them; one, as many as there may be, and more.
func TestHowManyFlows(t *testing.T) {
	for _, c := range calls()[:2] {
		for _, flows := range [][]int64{nil, {}, make([]int64, 0, 5), []int64{500, 605}[:0], slices.Repeat([]int64{5}, room+1), make([]int64, room+1), slices.Repeat([]int64{5}, 1<<16)} {
			checkRefused(t, c, ask{loan: halfway(), flows: flows}, api.ErrArg)
		}
		for _, length := range []int{1, 2, room - 1, room} {
			checkTaken(t, c, ask{loan: halfway(), flows: slices.Repeat([]int64{5}, length)})
		}
	}
}

// Of all three: flows at their bounds, beyond and far, at each place.
func TestWrongFlow(t *testing.T) {
	for _, c := range calls() {
		for _, length := range []int{1, 2, 3, room} {
			for at := range length {
				for _, wrong := range wrongFlows() {
					a := usual()
					a.flows = slices.Repeat([]int64{500}, length)
					a.flows[at] = wrong
					checkRefused(t, c, a, api.ErrArg)
				}
			}
			for _, at := range []int{0, length - 1} {
				for _, n := range []int64{0, 1, rich - 1, rich} {
					a := usual()
					a.flows = slices.Repeat([]int64{500}, length)
					a.flows[at] = n
					if e := checkSlow(t, c, a); e != api.OK && (length > 1 && n < rich-1 || c.name == "Test") {
						t.Errorf("%s of %d at %d of %d: %d", c.name, n, at, length, e)
					}
				}
			}
		}
	}
}

// Of all three: several wrong arguments together. The loan is asked first, its State next, then the rest.
func TestFirstError(t *testing.T) {
	wrong := usual()
	wrong.loan.Recovered = -1
	ended := usual()
	ended.loan = over(loan.Paid)
	over := usual()
	over.loan.Rate = api.MinRate
	for _, flows := range [][]int64{nil, {}, {0}, {-1}, {1}, {least, most}, {500, 605}, make([]int64, room+1), slices.Repeat([]int64{rich}, room), {rich, rich, rich, -1}} {
		for _, id := range []int{9, -1, ids} {
			for _, fair := range []int64{950, 0, -1, least, most} {
				for _, c := range calls() {
					checkRefused(t, c, ask{wrong.loan, id, fair, flows}, api.ErrArg)
					checkRefused(t, c, ask{ended.loan, id, fair, flows}, api.ErrState)
					checkSlow(t, c, ask{over.loan, id, fair, flows})
				}
			}
		}
	}
	for _, c := range calls()[:2] { // flows that may not come are found ahead of what they are worth
		checkRefused(t, c, ask{loan: over.loan, flows: []int64{0, 0, rich}}, api.ErrOver)
		checkRefused(t, c, ask{loan: over.loan, flows: []int64{0, 0, rich, -1}}, api.ErrArg)
		checkRefused(t, c, ask{loan: over.loan, flows: slices.Repeat([]int64{rich}, room+1)}, api.ErrArg)
	}
	both := over
	both.loan.State = loan.Paid // and it carries something
	for _, c := range calls() {
		checkRefused(t, c, both, api.ErrArg)
	}
}

// P1: any numbers, against the chapter's own words; some of them are right but for one part.
func TestAnything(t *testing.T) {
	r := rand.New(rand.NewSource(4))
	told := map[api.Errno]int{}
	for range 8000 {
		a := ask{halfway(), int(someNumber(r)), someNumber(r), nil}
		all := parts()
		for range r.Intn(3) {
			all[r.Intn(len(all))].put(&a.loan, someNumber(r))
		}
		if r.Intn(6) == 0 {
			a.loan.Rate = api.MinRate
		}
		if r.Intn(4) == 0 {
			a.loan.State = int(someNumber(r))
		}
		for range r.Intn(4) {
			a.flows = append(a.flows, someNumber(r))
		}
		if r.Intn(3) > 0 {
			a.id, a.fair, a.flows = r.Intn(ids), max(someAmount(r), 1), someAmounts(r, 1+r.Intn(4))
		}
		for _, c := range calls() {
			told[checkSlow(t, c, a)]++
		}
	}
	for _, e := range []api.Errno{api.OK, api.ErrArg, api.ErrOver, api.ErrBracket} {
		if told[e] < 100 {
			t.Error("too few:", e, told)
		}
	}
}
