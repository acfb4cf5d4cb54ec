package loss

import (
	"math/big"
	"math/rand"
	"slices"
	"testing"

	"lombard/api"
)

// mayBeLost is Of times Lost, by Unit.
func mayBeLost(t Term) int64 {
	return slowRound(big.NewInt(t.Of), big.NewInt(t.Lost), big.NewInt(unit)).Int64()
}

// checkBounds holds Parts against P15.3, without reckoning them.
func checkBounds(t *testing.T, l []Term, r int64) []int64 {
	t.Helper()
	parts, e := Parts(l, r)
	if e != api.OK || len(parts) != len(l) {
		t.Fatalf("%v at %d: %v, %d", told(l), r, told(parts), e)
	}
	sum, greatest := int64(0), int64(0)
	for i, n := range parts {
		if n < 0 || n > mayBeLost(l[i]) || n > l[i].Of {
			t.Fatalf("%v at %d: the part %d is %d", l[i], r, i, n)
		}
		sum, greatest = sum+n, max(greatest, l[i].Of)
	}
	if sum > greatest+int64(len(l)) {
		t.Fatalf("%v at %d: %d together, the greatest Of is %d", told(l), r, sum, greatest)
	}
	return parts
}

// evenly fails as likely in each of so many periods, and for sure in one of them.
func evenly(periods int, lost, of int64) []Term {
	l := repeat(Term{0, lost, of}, periods)
	for i := range l {
		l[i].Fails = unit / int64(periods-i)
	}
	return l
}

// P15.3: no Part is below 0 or above what may be lost, and all together are no more than the greatest Of, and one for each.
func TestBounds(t *testing.T) {
	r := rand.New(rand.NewSource(5))
	for range 2000 {
		checkBounds(t, someTerms(r, r.Intn(30)), r.Int63n(tenth))
	}
	for range 30 {
		checkBounds(t, someTerms(r, room), r.Int63n(unit/40))
	}
	for _, n := range []int{1, 2, 5, 6} {
		for _, at := range rates() {
			checkBounds(t, repeat(Term{unit, unit, rich}, n), at)
			checkBounds(t, evenly(n, unit, rich), at)
			checkBounds(t, evenly(n, unit, 1), at)
		}
	}
}

// P15.3: one for each is what rounding may bring, though never as much: 600 parts that are each a little more than a half come to more than there is to lose.
func TestBoundsRounded(t *testing.T) {
	for _, x := range []struct{ of, want int64 }{{301, 600}, {899, 600}, {901, 1200}, {299, 0}, {1, 0}, {room, room}} {
		l := evenly(room, unit, x.of)
		sum := int64(0)
		for _, n := range checkBounds(t, l, 0) {
			sum += n
		}
		if sum != x.want {
			t.Errorf("%d: %d; wanted %d", x.of, sum, x.want)
		}
		checkBounds(t, evenly(room, half+1, 2*x.of), 0)
	}
}

// P15.3, and what it stands on: a loan that fails for sure in the end, at 0, loses all of it, but for what each part was rounded by.
func TestAllIsLost(t *testing.T) {
	r := rand.New(rand.NewSource(6))
	for range 300 {
		of, n := someAmount(r), 1+r.Intn(60)
		l := someTerms(r, n)
		for i := range l {
			l[i].Lost, l[i].Of = unit, of
		}
		l[n-1].Fails = unit
		all, e := Expect(l, 0, n)
		if off := 2 * (all - of); e != api.OK || off > int64(n) || -off > int64(n) {
			t.Fatalf("%v: %d of %d, %d", l, all, of, e)
		}
	}
}

// P15.3: of more periods there is no less.
func TestMorePeriods(t *testing.T) {
	r := rand.New(rand.NewSource(7))
	for range 100 {
		l, at, last := someTerms(r, r.Intn(30)), r.Int63n(tenth), int64(0)
		for periods := range 35 {
			n, e := Expect(l, at, periods)
			if e != api.OK || n < last {
				t.Fatalf("%v at %d, %d periods: %d behind %d, %d", l, at, periods, n, last, e)
			}
			last = n
		}
		checkExpect(t, l, at, room, last, api.OK)
	}
}

// P15.3: of a worse stage there is no less, whatever the year is, and other years in other stages.
func TestWorseStage(t *testing.T) {
	r := rand.New(rand.NewSource(8))
	more := 0
	for range 300 {
		l, at := someTerms(r, r.Intn(30)), r.Int63n(tenth)
		for _, year := range []int{1, 2, max(1, len(l)), len(l) + 1, room} {
			first, e1 := Stage(l, at, 1, year)
			second, e2 := Stage(l, at, 2, 1+r.Intn(room))
			third, e3 := Stage(l, at, 3, 1+r.Intn(room))
			if e1 != api.OK || e2 != api.OK || e3 != api.OK || second < first || third < second {
				t.Fatalf("%v at %d, a year of %d: %d, %d, %d", l, at, year, first, second, third)
			}
			if second > first {
				more++
			}
		}
	}
	if more < 300 {
		t.Error("too few:", more)
	}
}

// P15.3: at a greater rate no Part is greater; and where a Power was too great, it is.
func TestGreaterRate(t *testing.T) {
	r := rand.New(rand.NewSource(9))
	less, refused := 0, 0
	for i := range 2000 {
		n := 1 + r.Intn(20)
		if i%100 == 0 {
			n = room
		}
		l, low := someTerms(r, n), someRate(r)
		high := min(top, low+1+r.Int63n(tenth)>>r.Intn(40))
		parts, e := Parts(l, low)
		fewer, more := Parts(l, high)
		switch {
		case e != api.OK && more != e, more != api.OK && more != api.ErrOver:
			t.Fatalf("%v: %d at %d, %d at %d", told(l), e, low, more, high)
		case more != api.OK:
			refused++
			continue
		}
		for i := range parts {
			if fewer[i] > parts[i] {
				t.Fatalf("%v at %d: %v, at %d: %v", told(l), low, parts, high, fewer)
			}
		}
		if !slices.Equal(parts, fewer) {
			less++
		}
	}
	if less < 500 || refused < 50 {
		t.Error("too few:", less, refused)
	}
}

// P15.3: along all rates from 0 to MaxRate, so far as there are parts.
func TestRatesFall(t *testing.T) {
	l := repeat(Term{tenth, unit, rich}, 6)
	last := repeat64(rich, 6)
	for r := int64(0); r <= top; r += top / 500 {
		parts, e := Parts(l, r)
		if e != api.OK {
			t.Fatal(r, e)
		}
		for i, n := range parts {
			if n >= last[i] { // so much is lost here that each step is to be seen
				t.Fatalf("at %d: %v behind %v", r, parts, last)
			}
		}
		last = parts
	}
}

func repeat64(n int64, times int) []int64 {
	return slices.Repeat([]int64{n}, times)
}

// P1: every call ends and none panics, whatever stands in each place; beside an error there is nothing.
func TestTotal(t *testing.T) {
	numbers := []int64{least, least + 1, -1 << 32, -unit, -1, 0, 1, half, unit, unit + 1, rich, rich + 1, 1 << 62, most - 1, most}
	for _, a := range numbers {
		for _, b := range numbers {
			for _, c := range numbers {
				l := []Term{{a, b, c}, {c, a, b}, {b, c, a}}
				checkSlow(t, l, a)
				checkSlow(t, l[:1], 0)
				want, e := slowExpect(l[:1], b, int(c))
				checkExpect(t, l[:1], b, int(c), want, e)
				want, e = slowStage(l[:1], 1, int(b), int(c))
				checkStage(t, l[:1], 1, int(b), int(c), want, e)
				want, e = slowStage(nil, a, int(b), int(c))
				checkStage(t, nil, a, int(b), int(c), want, e)
			}
		}
	}
}
