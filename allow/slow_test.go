package allow

import (
	"math"
	"math/big"
	"math/rand"
	"testing"

	"lombard/api"
)

const (
	great = 1 << 49
	deep  = 1 << 60
	room  = api.MaxEvents
	least = math.MinInt64
	most  = math.MaxInt64
)

// wrongStages are beyond 1 to 3: one beyond, and far; the last ones are stages, if all but their lowest bits are cut off.
func wrongStages() []int {
	return []int{0, 4, -1, 5, -2, -3, 7, math.MinInt, math.MaxInt, math.MaxInt - 1, 256 + 1, 1<<16 + 2, math.MinInt + 1, math.MinInt + 2, math.MinInt + 3}
}

// wrongAmounts are beyond 0 to 2^49.
func wrongAmounts() []int64 {
	return []int64{-1, great + 1, -2, great + 2, -great, 2 * great, -1 << 32, deep, -deep, 1 << 62, -1 << 62, least, least + 1, most - 1, most}
}

// wrongOpens are beyond 0 to 2^60.
func wrongOpens() []int64 {
	return []int64{-1, deep + 1, -2, deep + 2, -great, -deep, 2 * deep, 1 << 62, -1 << 62, least, least + 1, most - 1, most}
}

// wrongChanges are wrong in one part each, or in all.
func wrongChanges() []Change {
	var l []Change
	for _, n := range wrongStages() {
		l = append(l, Change{From: n, To: 1}, Change{From: 1, To: n}, Change{From: n, To: n}, Change{n, 3, 4, 7, 1}, Change{2, n, 4, 7, 1}, Change{n, n, 4, 7, 1})
	}
	for _, n := range wrongAmounts() {
		l = append(l, Change{1, 1, n, 0, 0}, Change{1, 1, 0, n, 0}, Change{1, 1, 0, 0, n}, Change{1, 2, n, 7, 1}, Change{3, 2, 4, n, 1}, Change{2, 3, 4, 7, n}, Change{1, 3, n, n, n}, Change{0, 4, n, n, n})
	}
	return append(l, Change{}, Change{math.MinInt, math.MaxInt, least, most, least})
}

// amounts and opens may be: the bounds, those beside them, and some ordinary ones.
func amounts() []int64 {
	return []int64{0, 1, 2, 1000, great - 1, great}
}

func opens() []int64 {
	return []int64{0, 1, 1000, great, deep - 1, deep}
}

// numberAt is one of a row's six numbers, where it is kept.
func numberAt(r *Row, at int) *int64 {
	return []*int64{&r.Open, &r.In, &r.Out, &r.Anew, &r.Written, &r.Close}[at]
}

// with is a row of which one number is another.
func with(r Row, at int, n int64) Row {
	*numberAt(&r, at) = n
	return r
}

func mayBe(c Change) bool {
	for _, s := range []int{c.From, c.To} {
		if s != 1 && s != 2 && s != 3 {
			return false
		}
	}
	for _, n := range []int64{c.Was, c.Now, c.Written} {
		if n < 0 || n > 562949953421312 {
			return false
		}
	}
	return true
}

// slowSum is that of numbers, in numbers of any size.
func slowSum(l ...int64) *big.Int {
	sum := new(big.Int)
	for _, n := range l {
		sum.Add(sum, big.NewInt(n))
	}
	return sum
}

// slowRoll is P16.1 word by word, a stage behind the other, in numbers of any size. Of a number that isn't within 64 bits it answers false.
func slowRoll(open [3]int64, l []Change) ([3]Row, api.Errno, bool) {
	if len(l) > 4096 {
		return [3]Row{}, api.ErrFull, true
	}
	for _, c := range l {
		if !mayBe(c) {
			return [3]Row{}, api.ErrArg, true
		}
	}
	for _, n := range open {
		if n < 0 || n > 1152921504606846976 {
			return [3]Row{}, api.ErrArg, true
		}
	}
	var rows [3]Row
	for i := range rows {
		var ins, outs, anews, writtens, closes big.Int
		for _, c := range l {
			if c.From == i+1 && c.To != i+1 {
				outs.Add(&outs, slowSum(c.Was))
			}
			if c.From != i+1 && c.To == i+1 {
				ins.Add(&ins, slowSum(c.Was))
			}
			if c.To == i+1 {
				anews.Add(&anews, slowSum(c.Now, -c.Was, c.Written))
				writtens.Add(&writtens, slowSum(c.Written))
			}
		}
		closes.Add(slowSum(open[i]), &ins)
		closes.Add(&closes, &anews)
		closes.Sub(&closes, &outs)
		closes.Sub(&closes, &writtens)
		for _, n := range []*big.Int{&ins, &outs, &anews, &writtens, &closes} {
			if !n.IsInt64() {
				return [3]Row{}, api.OK, false
			}
		}
		rows[i] = Row{open[i], ins.Int64(), outs.Int64(), anews.Int64(), writtens.Int64(), closes.Int64()}
	}
	return rows, api.OK, true
}

// slowNet is Net in numbers of any size.
func slowNet(l [3]Row) (Row, api.Errno) {
	var net Row
	for at := range 6 {
		sum := slowSum(*numberAt(&l[0], at), *numberAt(&l[1], at), *numberAt(&l[2], at))
		if !sum.IsInt64() {
			return Row{}, api.ErrOver
		}
		*numberAt(&net, at) = sum.Int64()
	}
	return net, api.OK
}

// slowTies is Ties in numbers of any size, each sum on the way held against 64 bits.
func slowTies(r Row) bool {
	sum := slowSum(r.Open)
	less := func(n int64) *big.Int { return new(big.Int).Neg(big.NewInt(n)) }
	for _, n := range []*big.Int{big.NewInt(r.In), big.NewInt(r.Anew), less(r.Out), less(r.Written)} {
		if sum.Add(sum, n); !sum.IsInt64() {
			return false
		}
	}
	return sum.Int64() == r.Close
}

// told is a list of changes, but no more than the first few of it.
func told(l []Change) []Change {
	return l[:min(len(l), 8)]
}

// checkSlow holds Roll against slowRoll, and answers what it answered.
func checkSlow(t *testing.T, open [3]int64, l []Change) ([3]Row, api.Errno) {
	t.Helper()
	got, e := Roll(open, l)
	want, wantE, fits := slowRoll(open, l)
	if !fits {
		t.Fatalf("%v, %d changes %v: beyond 64 bits", open, len(l), told(l))
	}
	if got != want || e != wantE {
		t.Fatalf("%v, %d changes %v: %+v, %d; wanted %+v, %d", open, len(l), told(l), got, e, want, wantE)
	}
	return got, e
}

// checkRoll holds Roll against rows by hand.
func checkRoll(t *testing.T, open [3]int64, l []Change, want [3]Row) {
	t.Helper()
	if got, e := checkSlow(t, open, l); got != want || e != api.OK {
		t.Errorf("%v, %d changes %v: %+v, %d; wanted %+v", open, len(l), told(l), got, e, want)
	}
}

// checkRefused holds Roll to an error, and nothing beside it.
func checkRefused(t *testing.T, open [3]int64, l []Change, e api.Errno) {
	t.Helper()
	if got, gotE := checkSlow(t, open, l); got != [3]Row{} || gotE != e {
		t.Errorf("%v, %d changes %v: %+v, %d; wanted %d", open, len(l), told(l), got, gotE, e)
	}
}

func someAmount(r *rand.Rand) int64 {
	switch r.Intn(4) {
	case 0:
		return amounts()[r.Intn(len(amounts()))]
	case 1:
		return r.Int63n(1000)
	}
	return r.Int63n(great + 1)
}

func someOpen(r *rand.Rand) [3]int64 {
	return [3]int64{r.Int63n(deep + 1), opens()[r.Intn(len(opens()))], r.Int63n(1000)}
}

func someChanges(r *rand.Rand, n int) []Change {
	var l []Change
	for range n {
		l = append(l, Change{1 + r.Intn(3), 1 + r.Intn(3), someAmount(r), someAmount(r), someAmount(r)})
	}
	return l
}
