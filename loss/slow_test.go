package loss

import (
	"math"
	"math/big"
	"math/rand"
	"slices"
	"testing"

	"lombard/api"
)

const (
	unit  = api.Unit
	half  = api.Unit / 2
	tenth = api.Unit / 10
	rich  = api.MaxMoney
	top   = api.MaxRate
	room  = api.MaxPeriods
	least = math.MinInt64
	most  = math.MaxInt64
)

// wrongShares are beyond 0 to Unit: one beyond, and far.
func wrongShares() []int64 {
	return []int64{-1, unit + 1, -2, unit + 2, -tenth, -unit, 2 * unit, rich, unit + 1<<32, -1 << 32, 1 << 62, -1 << 62, least, least + 1, most - 1, most}
}

// wrongAmounts are beyond 0 to MaxMoney.
func wrongAmounts() []int64 {
	return []int64{-1, rich + 1, -2, rich + 2, -1000, -rich, 2 * rich, 1 << 62, -1 << 62, least, least + 1, most - 1, most}
}

// wrongRates are beyond 0 to MaxRate; some of them are rates that layer 3 takes.
func wrongRates() []int64 {
	return []int64{-1, top + 1, -2, top + 2, -tenth, api.MinRate, api.MinRate - 1, -unit, -top, 2 * top, most - unit, most - unit + 1, 1 << 62, -1 << 62, least, least + 1, most - 1, most}
}

// wrongTerms are wrong in one part each, or in all.
func wrongTerms() []Term {
	var l []Term
	for _, n := range wrongShares() {
		l = append(l, Term{n, n, n}, Term{Fails: n}, Term{Lost: n}, Term{n, half, 1000}, Term{tenth, n, 1000})
	}
	for _, n := range wrongAmounts() {
		l = append(l, Term{Of: n}, Term{tenth, half, n}, Term{unit, unit, n})
	}
	return l
}

// fewWrongTerms is one of each kind, for lists that are long.
func fewWrongTerms() []Term {
	return []Term{{Fails: -1}, {Fails: unit + 1}, {Lost: -1}, {Lost: unit + 1}, {Of: -1}, {Of: rich + 1}, {Fails: least}, {Fails: most}, {Lost: least}, {Lost: most}, {Of: least}, {Of: most}, {least, most, least}}
}

// shares, amounts and rates may be: the bounds, those beside them, and some ordinary ones.
func shares() []int64 {
	return []int64{0, 1, 2, 3, tenth, half - 1, half, half + 1, unit - 1, unit}
}

func amounts() []int64 {
	return []int64{0, 1, 2, 3, 1000, 1001, unit, rich - 1, rich}
}

func rates() []int64 {
	return []int64{0, 1, 2, unit / 200, tenth, half, unit, top - 1, top}
}

// plain is the term of the document's examples.
func plain() Term {
	return Term{tenth, half, 1000}
}

func repeat(t Term, times int) []Term {
	return slices.Repeat([]Term{t}, times)
}

// slowRound is a's product with b by c, to the nearer one, to the even one of two, in numbers of any size.
func slowRound(a, b, c *big.Int) *big.Int {
	q, rest := new(big.Int).DivMod(new(big.Int).Mul(a, b), c, new(big.Int))
	side := rest.Lsh(rest, 1).Cmp(c)
	if side > 0 || side == 0 && q.Bit(0) == 1 {
		q.Add(q, big.NewInt(1))
	}
	return q
}

func slowCheck(l []Term) api.Errno {
	if len(l) > 600 {
		return api.ErrFull
	}
	for _, t := range l {
		if t.Fails < 0 || t.Fails > 1000000000000 || t.Lost < 0 || t.Lost > 1000000000000 || t.Of < 0 || t.Of > 10000000000000 {
			return api.ErrArg
		}
	}
	return api.OK
}

// slowParts is P15.1 with layer 3's Power word by word, in one goroutine, in numbers of any size.
func slowParts(l []Term, r int64) ([]int64, api.Errno) {
	if e := slowCheck(l); e != api.OK {
		return nil, e
	}
	if r < 0 || r > 10000000000000 {
		return nil, api.ErrArg
	}
	one := big.NewInt(1000000000000)
	withRate := new(big.Int).Add(one, big.NewInt(r))
	there, grown := one, one
	parts := []int64{}
	for _, t := range l {
		likely := slowRound(there, big.NewInt(t.Fails), one)
		there = new(big.Int).Sub(there, likely)
		if grown = slowRound(grown, withRate, one); !grown.IsInt64() {
			return nil, api.ErrOver
		}
		may := slowRound(big.NewInt(t.Of), big.NewInt(t.Lost), one)
		parts = append(parts, slowRound(slowRound(may, likely, one), one, grown).Int64())
	}
	return parts, api.OK
}

// slowExpect is P15.2, one period behind the other.
func slowExpect(l []Term, r int64, periods int) (int64, api.Errno) {
	parts, e := slowParts(l, r)
	if e != api.OK {
		return 0, e
	}
	if periods < 0 || periods > 600 {
		return 0, api.ErrArg
	}
	sum := int64(0)
	for i, n := range parts {
		if i < periods {
			sum += n
		}
	}
	return sum, api.OK
}

func slowStage(l []Term, r int64, stage, year int) (int64, api.Errno) {
	if year < 1 || year > 600 {
		return 0, api.ErrArg
	}
	switch stage {
	case 1:
		return slowExpect(l, r, year)
	case 2, 3:
		return slowExpect(l, r, len(l))
	}
	return 0, api.ErrArg
}

// told is a list in short, for a test that fails.
func told[T any](l []T) []T {
	return l[:min(len(l), 12)]
}

func checkCheck(t *testing.T, l []Term, want api.Errno) {
	t.Helper()
	if e := Check(l); e != want {
		t.Errorf("Check of %d terms %v: %d; wanted %d", len(l), told(l), e, want)
	}
}

func checkParts(t *testing.T, l []Term, r int64, want ...int64) {
	t.Helper()
	checkCheck(t, l, api.OK)
	if got, e := Parts(l, r); !slices.Equal(got, want) || e != api.OK {
		t.Errorf("Parts of %d terms %v at %d: %v, %d; wanted %v", len(l), told(l), r, told(got), e, told(want))
	}
}

// checkRefused holds Parts against an error; Expect and Stage have it too, whatever periods or stage that may be they are asked of.
func checkRefused(t *testing.T, l []Term, r int64, want api.Errno) {
	t.Helper()
	if got, e := Parts(l, r); len(got) != 0 || e != want {
		t.Errorf("Parts of %d terms %v at %d: %v, %d; wanted the error %d", len(l), told(l), r, told(got), e, want)
	}
	checkExpect(t, l, r, 0, 0, want)
	checkExpect(t, l, r, 1, 0, want)
	checkExpect(t, l, r, room, 0, want)
	for stage := 1; stage <= 3; stage++ {
		checkStage(t, l, r, stage, 1, 0, want)
	}
}

func checkExpect(t *testing.T, l []Term, r int64, periods int, want int64, wantE api.Errno) {
	t.Helper()
	if n, e := Expect(l, r, periods); n != want || e != wantE {
		t.Errorf("Expect of %d terms %v at %d, %d periods: %d, %d; wanted %d, %d", len(l), told(l), r, periods, n, e, want, wantE)
	}
}

func checkStage(t *testing.T, l []Term, r int64, stage, year int, want int64, wantE api.Errno) {
	t.Helper()
	if n, e := Stage(l, r, stage, year); n != want || e != wantE {
		t.Errorf("Stage of %d terms %v at %d, stage %d, a year of %d: %d, %d; wanted %d, %d", len(l), told(l), r, stage, year, n, e, want, wantE)
	}
}

// checkSlow holds Check and Parts against the chapter's own words.
func checkSlow(t *testing.T, l []Term, r int64) api.Errno {
	t.Helper()
	checkCheck(t, l, slowCheck(l))
	want, wantE := slowParts(l, r)
	got, e := Parts(l, r)
	if !slices.Equal(got, want) || e != wantE {
		t.Fatalf("Parts of %d terms %v at %d: %v, %d; wanted %v, %d", len(l), told(l), r, told(got), e, told(want), wantE)
	}
	return e
}

// someShare is mostly small, so that a loan is there still for many periods; the bounds come too.
func someShare(r *rand.Rand) int64 {
	switch r.Intn(8) {
	case 0:
		return shares()[r.Intn(len(shares()))]
	case 1, 2:
		return r.Int63n(unit + 1)
	}
	return r.Int63n(unit / 50)
}

// someAmount is of any width, so that small ones come too.
func someAmount(r *rand.Rand) int64 {
	if r.Intn(8) == 0 {
		return amounts()[r.Intn(len(amounts()))]
	}
	return r.Int63n(rich+1) >> r.Intn(44)
}

func someTerms(r *rand.Rand, n int) []Term {
	l := make([]Term, n)
	for i := range l {
		l[i] = Term{someShare(r), someShare(r), someAmount(r)}
		if r.Intn(2) == 0 {
			l[i].Lost = r.Int63n(unit + 1)
		}
	}
	return l
}

// someRate is mostly as rates of a period are: so small that 600 of them aren't too great.
func someRate(r *rand.Rand) int64 {
	switch r.Intn(8) {
	case 0:
		return rates()[r.Intn(len(rates()))]
	case 1:
		return r.Int63n(top + 1)
	case 2:
		return r.Int63n(1000)
	}
	return r.Int63n(unit / 40)
}
