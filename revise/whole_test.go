package revise

import (
	"math/big"
	"math/rand"
	"slices"
	"sync"
	"testing"

	"lombard/api"
	"lombard/loan"
)

// exact is what flows are worth, unrounded.
func exact(flows []int64, r int64) *big.Rat {
	worth := new(big.Rat)
	less := big.NewRat(unit, unit+r)
	for _, n := range slices.Backward(flows) {
		worth.Mul(worth.Add(worth, new(big.Rat).SetInt64(n)), less)
	}
	return worth
}

// rounded is how far what is rounded on the way takes a worth at most: a half in each period, discounted from its beginning to now.
func rounded(periods int, r int64) *big.Rat {
	all, less := new(big.Rat), big.NewRat(unit, unit+r)
	for range periods {
		all.Add(all.Mul(all, less), big.NewRat(1, 2))
	}
	return all
}

// sumOf is that of rational numbers.
func sumOf(all ...*big.Rat) *big.Rat {
	sum := new(big.Rat)
	for _, n := range all {
		sum.Add(sum, n)
	}
	return sum
}

// someNew is a loan that was just made.
func someNew(r *rand.Rand) (loan.Loan, api.Errno) {
	flows := someAmounts(r, 1+r.Intn(20))
	var sum int64
	for _, n := range flows {
		sum += n
	}
	return loan.New(r.Intn(ids), min(max(sum/2+r.Int63n(sum+1), 1), rich), flows)
}

// P13.4: a catch-up to what is Left, at the rate that was solved just now, changes Gross by no more than what was rounded on the way: in the worth itself, in the thousandths by which layer 10 solves, and by a rate being one of Unit's parts.
func TestCatchUpToLeft(t *testing.T) {
	r := rand.New(rand.NewSource(5))
	made, still := 0, 0
	for range 500 {
		l, e := someNew(r)
		if e != api.OK {
			continue
		}
		next, more, e := CatchUp(l, l.Left)
		if e != api.OK {
			t.Fatalf("%+v: %d", l, e)
		}
		made++
		step := new(big.Rat).Sub(exact(l.Left, l.Rate), exact(l.Left, l.Rate+1))
		lost := rounded(len(l.Left), l.Rate)
		bound := sumOf(lost, new(big.Rat).Mul(rounded(len(l.Left), l.Rate), big.NewRat(1, 1000)), step)
		if new(big.Rat).SetInt64(max(more, -more)).Cmp(bound) > 0 {
			t.Fatalf("%+v: %d more; %s at most", l, more, bound.FloatString(3))
		}
		if more == 0 {
			still++
		}
		want := l
		want.Gross, want.Adjusted = l.Gross+more, more
		if !same(next, want) {
			t.Fatalf("%+v: %+v", l, next)
		}
		if _, other, e := Test(l, l.Left); e != api.OK || other != (10*max(more, -more) >= l.Gross) {
			t.Fatalf("%+v: another loan: %v, %d", l, other, e)
		}
	}
	if made < 300 || still < 100 {
		t.Error("too few:", made, still)
	}
}

// P13.4: by hand: nothing changes, where nothing is rounded.
func TestCatchUpToLeftNamed(t *testing.T) {
	for _, x := range []struct {
		outlay int64
		flows  []int64
	}{
		{1000, []int64{500, 605}},
		{1000, []int64{1100}},
		{1000, []int64{100, 1100}},
		{1000, []int64{0, 0, 1331}},
		{1000, []int64{400, 500}},
		{rich, []int64{rich}},
		{1, []int64{1}},
	} {
		l := fresh(t, 1, x.outlay, x.flows)
		if next, more, e := CatchUp(l, x.flows); e != api.OK || more != 0 || !same(next, l) {
			t.Errorf("%+v: %+v, %d, %d", x, next, more, e)
		}
	}
}

// P13.4: twice the flows are worth twice as much, but for what was rounded on the way: once in their own worth, and twice in the others'.
func TestTwiceTheFlows(t *testing.T) {
	r := rand.New(rand.NewSource(6))
	made := 0
	for range 1500 {
		l := carrying(someAmount(r), r.Int63n(unit+tenth)-tenth)
		once, twice := someAmounts(r, 1+r.Intn(20)), []int64(nil)
		for i := range once {
			once[i] /= 2
			twice = append(twice, 2*once[i])
		}
		a, _, e := Test(l, once)
		b, _, e2 := Test(l, twice)
		if e != api.OK || e2 != api.OK {
			continue
		}
		made++
		lost := rounded(len(once), l.Rate)
		if by := b - 2*a; new(big.Rat).SetInt64(max(by, -by)).Cmp(sumOf(lost, lost, lost)) > 0 {
			t.Fatalf("%v at %d: %d, twice them %d", once, l.Rate, a, b)
		}
	}
	if made < 1000 {
		t.Error("too few:", made)
	}
	for _, x := range []struct{ flow, worth int64 }{{1100, 1000}, {2200, 2000}, {4400, 4000}} {
		if worth, _, e := Test(given(), []int64{x.flow}); worth != x.worth || e != api.OK {
			t.Errorf("%d: %d, %d", x.flow, worth, e)
		}
	}
}

// P13.4: a worth is the exact one, but for what was rounded on the way.
func TestWorthExact(t *testing.T) {
	r := rand.New(rand.NewSource(7))
	for range 500 {
		l := carrying(900, r.Int63n(unit+tenth)-tenth)
		flows := someAmounts(r, 1+r.Intn(20))
		worth, _, e := Test(l, flows)
		if e != api.OK {
			t.Fatalf("%v at %d: %d", flows, l.Rate, e)
		}
		by := new(big.Rat).Sub(new(big.Rat).SetInt64(worth), exact(flows, l.Rate))
		if by.Abs(by).Cmp(rounded(len(flows), l.Rate)) > 0 {
			t.Fatalf("%v at %d: %d, apart by %s", flows, l.Rate, worth, by.FloatString(3))
		}
	}
}

// Layers 12 and 13 together: a loan is caught up on its way and paid off then; all interest is what was received, less the outlay and what was adjusted. A second catch-up to the same flows changes nothing.
func TestOnTheWay(t *testing.T) {
	l := fresh(t, 1, 1000, []int64{500, 605})
	late, _, e := loan.Step(l, 0)
	if e != api.OK || late.Due != 500 || late.Behind != 1 {
		t.Fatal(late, e)
	}
	next, more, e := CatchUp(late, []int64{600, 600})
	if e != api.OK || next.Gross != 1089 || more != 22 || next.Due != 0 {
		t.Fatal(next, more, e)
	}
	again, more, e := CatchUp(next, next.Left)
	if e != api.OK || more != 0 || !same(again, next) {
		t.Fatal(again, more, e)
	}
	for range 2 {
		if next, _, e = loan.Step(next, 600); e != api.OK {
			t.Fatal(e)
		}
	}
	if next.State != loan.Paid || next.Adjusted != 22 || next.Income != 1200-1000-22 {
		t.Error(next)
	}
}

// Layers 12 and 13 together: what is taken off the books takes no step any more, and the new loan does.
func TestReplacedOnTheWay(t *testing.T) {
	l := fresh(t, 1, 1000, []int64{500, 605})
	old, next, gain, e := Replace(l, 2, 970, []int64{500, 600})
	if e != api.OK || gain != -30 {
		t.Fatal(old, next, gain, e)
	}
	for _, c := range calls() {
		checkRefused(t, c, ask{old, 3, 970, []int64{500, 600}}, api.ErrState)
		checkTaken(t, c, ask{next, 3, 970, []int64{500, 600}})
	}
	if _, _, e := loan.Step(old, 1); e != api.ErrState {
		t.Error(e)
	}
	if _, _, e := loan.Step(next, 500); e != api.OK {
		t.Error(e)
	}
}

// Rule 4: loans and flows are as they were, with what lies beside them and in their spare room, whatever is answered.
func TestNotChanged(t *testing.T) {
	left, flows := []int64{least, 100, 200, 300, most, -3}, []int64{most, 500, 605, 0, least, -7}
	wasLeft, wasFlows := slices.Clone(left), slices.Clone(flows)
	for _, part := range [][]int64{left[1:4], left[1:2], left[1:1], left[:2], left} {
		for _, rest := range [][]int64{flows[1:3], flows[1:2], flows[1:1], flows[3:4], flows[:2], flows} {
			for _, id := range []int{9, -1} {
				a := usual()
				a.id, a.loan.Left, a.flows = id, part, rest
				for _, c := range calls() {
					c.of(a)
				}
			}
		}
	}
	if !slices.Equal(left, wasLeft) || !slices.Equal(flows, wasFlows) {
		t.Error(left, flows)
	}
}

// Rule 4: what is answered shares nothing with what was handed in, nor its spare room: each may be changed, and the other stays.
func TestNotShared(t *testing.T) {
	for _, c := range calls() {
		left, flows := []int64{100, 200, 300, 11, 12, 13}, []int64{500, 605, 14, 15, 16, 17}
		a := usual()
		a.loan.Left, a.flows = left[:3], flows[:2]
		want := c.slow(copied(a))
		got := c.of(a)
		for i := range left {
			left[i], flows[i] = -7, -7
		}
		if !sameAnswer(got, want) || got.e != api.OK {
			t.Errorf("%s: %+v", c.name, got)
		}
		for _, l := range [][]int64{got.old.Left, got.next.Left} {
			for i := range l[:cap(l)] {
				l[:cap(l)][i] = 5
			}
		}
		if sevens := slices.Repeat([]int64{-7}, 6); !slices.Equal(left, sevens) || !slices.Equal(flows, sevens) {
			t.Errorf("%s: %v, %v", c.name, left, flows)
		}
	}
}

// Rule 4: of a loan whose flows are its own Left, too: what is answered lies elsewhere.
func TestNotSharedWithLeft(t *testing.T) {
	for _, c := range calls() {
		a := usual()
		a.fair, a.flows = 550, a.loan.Left
		want := c.slow(copied(a))
		got := c.of(a)
		clear(a.flows)
		if !sameAnswer(got, want) || got.e != api.OK {
			t.Errorf("%s: %+v", c.name, got)
		}
	}
}

// Rule 5: calls at the same time don't touch one another, though they share a loan and flows; and once more they answer the same.
func TestAtOnce(t *testing.T) {
	shared := usual()
	var joined sync.WaitGroup
	for i := range 8 {
		joined.Go(func() {
			a := shared
			a.id = i
			for _, c := range calls() {
				want := c.slow(a)
				for range 20 {
					if got := c.of(a); !sameAnswer(got, want) {
						t.Errorf("%s: %+v", c.name, got)
					}
				}
			}
		})
	}
	joined.Wait()
}

// The generic function itself, of other types: checks come in their order, and what is done comes behind them, if none refuses; beside an error there is nothing.
func TestChecked(t *testing.T) {
	var asked []string
	check := func(name string, e api.Errno) func(int) api.Errno {
		return func(n int) api.Errno {
			asked = append(asked, name)
			if n == 5 {
				return api.OK
			}
			return e
		}
	}
	do := func(n int) (string, api.Errno) {
		asked = append(asked, "do")
		if n == 5 {
			return "done", api.OK
		}
		return "half done", api.ErrFull
	}
	for _, x := range []struct {
		thing  int
		first  api.Errno
		second api.Errno
		want   string
		e      api.Errno
		asked  []string
	}{
		{5, api.ErrNone, api.ErrForm, "done", api.OK, []string{"first", "second", "do"}},
		{1, api.ErrNone, api.ErrForm, "", api.ErrNone, []string{"first"}},
		{1, api.OK, api.ErrForm, "", api.ErrForm, []string{"first", "second"}},
		{1, api.OK, api.OK, "", api.ErrFull, []string{"first", "second", "do"}},
	} {
		asked = nil
		got, e := checked(x.thing, do, check("first", x.first), check("second", x.second))
		if got != x.want || e != x.e || !slices.Equal(asked, x.asked) {
			t.Errorf("%+v: %q, %d, %v", x, got, e, asked)
		}
	}
	if got, e := checked(5, do); got != "done" || e != api.OK {
		t.Error(got, e)
	}
}
