package loss

import (
	"math/rand"
	"testing"

	"lombard/api"
)

// wrongPeriods are beyond 0 to MaxPeriods; some of them would be within, if they were cut to 32 bits or less.
func wrongPeriods() []int {
	return []int{-1, room + 1, -2, room + 2, -room, 2 * room, 1 << 16, 1 << 31, -1 << 31, 1 << 32, 1<<32 + 1, 1 << 62, least, least + 1, most - 1, most}
}

func wrongStages() []int {
	return []int{0, 4, -1, 5, -2, -3, 1<<32 + 1, 1 << 62, least, least + 1, most - 1, most}
}

func wrongYears() []int {
	return append([]int{0}, wrongPeriods()...)
}

// P15.2 Expect: by hand.
func TestExpectNamed(t *testing.T) {
	a := plain()
	l := []Term{a, a, a}
	for periods, want := range []int64{0, 50, 95, 135, 135, 135} {
		checkExpect(t, l, 0, periods, want, api.OK)
	}
	for _, periods := range []int{room - 1, room} {
		checkExpect(t, l, 0, periods, 135, api.OK)
	}
	for periods, want := range []int64{0, 45, 82, 112, 112} {
		checkExpect(t, l, tenth, periods, want, api.OK)
	}
	checkExpect(t, []Term{a}, 0, 1, 50, api.OK)
	checkExpect(t, []Term{a, a}, 0, 2, 95, api.OK)
	checkExpect(t, []Term{{unit, unit, rich}}, 0, room, rich, api.OK)
	checkExpect(t, []Term{{unit, unit, rich}, {unit, unit, rich}}, 0, 2, rich, api.OK)
	checkExpect(t, []Term{{unit, unit, rich}}, top, 1, 909090909091, api.OK)
	checkExpect(t, []Term{{unit, unit, rich}}, 1, 1, rich-10, api.OK)
}

// P15.2 Expect: of no terms there is nothing to lose, in any periods that may be.
func TestExpectNone(t *testing.T) {
	for _, l := range [][]Term{nil, {}, make([]Term, 2)[2:]} {
		for _, periods := range []int{0, 1, 2, room} {
			checkExpect(t, l, 0, periods, 0, api.OK)
			checkExpect(t, l, top, periods, 0, api.OK)
			checkExpect(t, l, -1, periods, 0, api.ErrArg)
		}
		for _, periods := range wrongPeriods() {
			checkExpect(t, l, 0, periods, 0, api.ErrArg)
		}
	}
}

// P15.2 Expect: as many terms as there may be, and all periods near them.
func TestExpectLongest(t *testing.T) {
	l := repeat(Term{unit / 1000, half, 1000000}, room)
	for _, periods := range []int{0, 1, 2, 12, room / 2, room - 1, room} {
		want, _ := slowExpect(l, unit/200, periods)
		checkExpect(t, l, unit/200, periods, want, api.OK)
	}
	late := append(make([]Term, room-1), Term{unit, unit, 9})
	checkExpect(t, late, 0, room-1, 0, api.OK)
	checkExpect(t, late, 0, room, 9, api.OK)
}

// P15.2 ErrArg: periods that may not be, of few terms and of many.
func TestExpectWrong(t *testing.T) {
	for _, periods := range wrongPeriods() {
		for _, n := range []int{1, 3, room} {
			checkExpect(t, repeat(plain(), n), 0, periods, 0, api.ErrArg)
			checkExpect(t, make([]Term, n), 1, periods, 0, api.ErrArg)
		}
	}
}

// P15.2: Parts' error comes ahead of wrong periods; and it is that of all terms, though fewer periods are asked for.
func TestExpectErrors(t *testing.T) {
	for _, periods := range append(wrongPeriods(), 0, 1, 6, 7, room) {
		checkExpect(t, make([]Term, room+1), 0, periods, 0, api.ErrFull)
		checkExpect(t, make([]Term, room+1), -1, periods, 0, api.ErrFull)
		checkExpect(t, repeat(Term{-1, -1, -1}, room+1), 0, periods, 0, api.ErrFull)
		checkExpect(t, repeat(plain(), 7), top, periods, 0, api.ErrOver)
		checkExpect(t, make([]Term, 7), top, periods, 0, api.ErrOver)
		checkExpect(t, make([]Term, 7), top+1, periods, 0, api.ErrArg)
		checkExpect(t, append(repeat(plain(), 7), Term{Of: -1}), 0, periods, 0, api.ErrArg)
	}
	checkExpect(t, repeat(plain(), 6), top, 0, 0, api.OK)
	checkExpect(t, repeat(plain(), 6), top, 6, 5, api.OK)
}

// P15.2 Stage: by hand; the year counts in the stage 1 alone.
func TestStageNamed(t *testing.T) {
	a := plain()
	l := []Term{a, a, a}
	for _, x := range []struct {
		year int
		want int64
	}{{1, 50}, {2, 95}, {3, 135}, {4, 135}, {room - 1, 135}, {room, 135}} {
		checkStage(t, l, 0, 1, x.year, x.want, api.OK)
		checkStage(t, l, 0, 2, x.year, 135, api.OK)
		checkStage(t, l, 0, 3, x.year, 135, api.OK)
	}
	checkStage(t, l, tenth, 1, 1, 45, api.OK)
	checkStage(t, l, tenth, 2, 1, 112, api.OK)
	checkStage(t, l, tenth, 3, 1, 112, api.OK)
	for stage := 1; stage <= 3; stage++ {
		checkStage(t, []Term{a}, 0, stage, 1, 50, api.OK)
		checkStage(t, nil, 0, stage, 1, 0, api.OK)
		checkStage(t, []Term{}, top, stage, room, 0, api.OK)
	}
}

// P15.2 Stage: as many terms as there may be; what is lost in the last of them counts from the stage 2 on, or in a year of as many.
func TestStageLongest(t *testing.T) {
	late := append(make([]Term, room-1), Term{unit, unit, 9})
	for _, year := range []int{1, 2, room - 1} {
		checkStage(t, late, 0, 1, year, 0, api.OK)
		checkStage(t, late, 0, 2, year, 9, api.OK)
		checkStage(t, late, 0, 3, year, 9, api.OK)
	}
	for stage := 1; stage <= 3; stage++ {
		checkStage(t, late, 0, stage, room, 9, api.OK)
	}
}

// P15.2 ErrArg: a stage or a year that may not be, alone and together; a year of the stages 2 and 3 too.
func TestStageWrong(t *testing.T) {
	l := repeat(plain(), 3)
	for _, stage := range wrongStages() {
		for _, year := range append(wrongYears(), 1, 2, 3, room) {
			checkStage(t, l, 0, stage, year, 0, api.ErrArg)
			checkStage(t, nil, 0, stage, year, 0, api.ErrArg)
		}
	}
	for _, year := range wrongYears() {
		for stage := 1; stage <= 3; stage++ {
			checkStage(t, l, 0, stage, year, 0, api.ErrArg)
			checkStage(t, nil, 0, stage, year, 0, api.ErrArg)
		}
	}
}

// P15.2: a wrong stage or year comes ahead of all that Parts refuses; else it is Parts' error, of all terms, whatever the year.
func TestStageErrors(t *testing.T) {
	for _, x := range []struct {
		l []Term
		r int64
		e api.Errno
	}{
		{make([]Term, room+1), 0, api.ErrFull},
		{repeat(Term{-1, -1, -1}, room+1), least, api.ErrFull},
		{repeat(plain(), 7), top, api.ErrOver},
		{make([]Term, room), top, api.ErrOver},
		{repeat(plain(), 7), top + 1, api.ErrArg},
		{append(repeat(plain(), 7), Term{Lost: -1}), top, api.ErrArg},
	} {
		for stage := 1; stage <= 3; stage++ {
			for _, year := range []int{1, 6, 7, room} {
				checkStage(t, x.l, x.r, stage, year, 0, x.e)
			}
			for _, year := range wrongYears() {
				checkStage(t, x.l, x.r, stage, year, 0, api.ErrArg)
			}
		}
		for _, stage := range wrongStages() {
			checkStage(t, x.l, x.r, stage, 1, 0, api.ErrArg)
			checkStage(t, x.l, x.r, stage, 0, 0, api.ErrArg)
		}
	}
}

// P15.2: any terms, rates, periods, stages and years, against the chapter's own words.
func TestExpectAny(t *testing.T) {
	r := rand.New(rand.NewSource(3))
	wrong, count := wrongTerms(), map[api.Errno]int{}
	for range 3000 {
		l, at := someTerms(r, r.Intn(25)), someRate(r)
		if len(l) > 0 && r.Intn(10) == 0 {
			l[r.Intn(len(l))] = wrong[r.Intn(len(wrong))]
		}
		periods := r.Intn(30)
		if r.Intn(8) == 0 {
			periods = wrongPeriods()[r.Intn(len(wrongPeriods()))]
		}
		want, e := slowExpect(l, at, periods)
		checkExpect(t, l, at, periods, want, e)
		stage := r.Intn(5)
		wantStage, e := slowStage(l, at, stage, periods)
		checkStage(t, l, at, stage, periods, wantStage, e)
		count[e]++
	}
	if count[api.OK] < 800 || count[api.ErrArg] < 800 || count[api.ErrOver] < 50 {
		t.Error("too few:", count)
	}
}

// P15.2: what is expected is the sum of the Parts, and a stage is what is expected.
func TestExpectIsSum(t *testing.T) {
	r := rand.New(rand.NewSource(4))
	for range 100 {
		l, at := someTerms(r, r.Intn(25)), r.Int63n(tenth)
		parts, e := Parts(l, at)
		if e != api.OK || len(parts) != len(l) {
			t.Fatal(parts, e)
		}
		sum := int64(0)
		for i, n := range parts {
			checkExpect(t, l, at, i, sum, api.OK)
			sum += n
			checkStage(t, l, at, 1, i+1, sum, api.OK)
		}
		checkExpect(t, l, at, len(l), sum, api.OK)
		checkExpect(t, l, at, len(l)+1, sum, api.OK)
		checkStage(t, l, at, 2, 1, sum, api.OK)
		checkStage(t, l, at, 3, 1, sum, api.OK)
	}
}
