package loss

import (
	"math/rand"
	"slices"
	"testing"

	"lombard/api"
)

// P15.1: by hand, the document's examples first.
func TestPartsNamed(t *testing.T) {
	a, all := plain(), Term{unit, unit, rich}
	checkParts(t, []Term{a}, 0, 50)
	checkParts(t, []Term{a, a}, 0, 50, 45)
	checkParts(t, []Term{a, a, a, a}, 0, 50, 45, 40, 36) // the third is 40.5
	checkParts(t, []Term{a, a, a}, tenth, 45, 37, 30)
	checkParts(t, []Term{{unit, unit, 7}, a}, 0, 7, 0)                               // it failed, and isn't there any more
	checkParts(t, []Term{{0, unit, 7}, a, a}, 0, 0, 50, 45)                          // it can't fail in the first, so it is there still
	checkParts(t, []Term{{tenth, 0, 1000}, a}, 0, 0, 45)                             // it may fail in the first, though nothing is lost then
	checkParts(t, []Term{{tenth, half, 0}, a}, 0, 0, 45)                             // or though it is of nothing
	checkParts(t, []Term{{half, unit, 1000}, {half, unit, 2000}}, 0, 500, 500)       // each period has its own Of
	checkParts(t, []Term{{half, unit, 1000}, {half, half, 1000}}, 0, 500, 125)       // and Lost
	checkParts(t, []Term{{half, unit, 1000}, {tenth, unit, 1000}}, 0, 500, 50)       // and Fails
	checkParts(t, []Term{{half, unit, 800}, {unit, unit, 800}, all}, 0, 400, 400, 0) // all of it is lost
	checkParts(t, []Term{{half, unit, 800}, {unit, unit, 800}, all}, unit, 200, 100, 0)
	checkParts(t, []Term{{}, {}, {unit, unit, 800}}, unit, 0, 0, 100) // as many periods as it is there, not as many as are likely
}

// P15.1: each part of a term at its bounds, and one within.
func TestPartsEdges(t *testing.T) {
	for _, x := range []struct {
		term Term
		want int64
	}{
		{Term{}, 0},
		{Term{unit, unit, 0}, 0},
		{Term{unit, 0, rich}, 0},
		{Term{0, unit, rich}, 0},
		{Term{unit, unit, 1}, 1},
		{Term{unit, unit, rich}, rich},
		{Term{unit, unit, rich - 1}, rich - 1},
		{Term{1, unit, rich}, 10},
		{Term{unit, 1, rich}, 10},
		{Term{1, 1, rich}, 0},
		{Term{1, 1, 1}, 0},
		{Term{unit - 1, unit, rich}, rich - 10},
		{Term{unit, unit - 1, rich}, rich - 10},
		{Term{unit - 1, unit - 1, rich}, rich - 20},
		{Term{unit, unit - 1, 1}, 1},
		{Term{unit - 1, unit, 1}, 1},
	} {
		checkParts(t, []Term{x.term}, 0, x.want)
	}
	checkParts(t, []Term{{unit - 1, unit, rich}, {unit, unit, rich}, {unit, unit, rich}}, 0, rich-10, 10, 0)
	checkParts(t, []Term{{1, unit, rich}, {unit, unit, rich}, {unit, unit, rich}}, 0, 10, rich-10, 0)
}

// P15.1: the least rates and the greatest, at the first period and at the last one that there may be.
func TestPartsRates(t *testing.T) {
	all := Term{unit, unit, rich}
	checkParts(t, []Term{all}, 0, rich)
	checkParts(t, []Term{all}, 1, rich-10)
	checkParts(t, []Term{all}, unit, rich/2)
	checkParts(t, []Term{all}, top-1, 909090909091)
	checkParts(t, []Term{all}, top, 909090909091)
	late := append(make([]Term, room-1), all)
	checkParts(t, late, 0, append(make([]int64, room-1), rich)...)
	checkParts(t, late, 1, append(make([]int64, room-1), rich-6000)...)
	checkParts(t, late, 27089169194, append(make([]int64, room-1), 1084202)...) // the greatest of which 600 aren't too great
	checkParts(t, append(make([]Term, 5), all), top, 0, 0, 0, 0, 0, 5644739)
}

// P15.1: each of the four products that are rounded, just between two whole numbers, and just beside that.
func TestPartsBetween(t *testing.T) {
	for _, x := range []struct{ n, want int64 }{{1, 0}, {3, 2}, {5, 2}, {7, 4}, {9, 4}, {999, 500}, {1001, 500}} {
		checkParts(t, []Term{{half, 0, 0}, {x.n, unit, rich}}, 0, 0, 10*x.want) // how likely it fails
		checkParts(t, []Term{{unit, half, x.n}}, 0, x.want)                     // Of times Lost
		checkParts(t, []Term{{half, unit, x.n}}, 0, x.want)                     // that times how likely it fails
		checkParts(t, []Term{{unit, unit, x.n}}, unit, x.want)                  // that by the Power
		checkParts(t, []Term{{}, {unit, unit, 2 * x.n}}, unit, 0, x.want)
		low, high := x.n/2, x.n/2+1
		checkParts(t, []Term{{unit, half - 1, x.n}}, 0, low)
		checkParts(t, []Term{{unit, half + 1, x.n}}, 0, high)
		checkParts(t, []Term{{half - 1, unit, x.n}}, 0, low)
		checkParts(t, []Term{{half + 1, unit, x.n}}, 0, high)
		checkParts(t, []Term{{unit, unit, x.n}}, unit+2, low)
		checkParts(t, []Term{{unit, unit, x.n}}, unit-2, high)
	}
}

// P15.1: how likely it fails is taken off as it was rounded, so what is left of 1 in the end is what still fails then.
func TestPartsThere(t *testing.T) {
	all := Term{unit, unit, rich}
	checkParts(t, []Term{{half, 0, 0}, {1, 0, 0}, all}, 0, 0, 0, 10*half)     // half of 1 is rounded to 0
	checkParts(t, []Term{{half, 0, 0}, {3, 0, 0}, all}, 0, 0, 0, 10*(half-2)) // half of 3 to 2
	checkParts(t, []Term{{unit - 1, 0, 0}, {half, 0, 0}, all}, 0, 0, 0, 10)
	checkParts(t, []Term{{unit - 1, 0, 0}, {half + 1, 0, 0}, all}, 0, 0, 0, 0)
}

// P15.1: each product is rounded on its own, in the chapter's order: Of and Lost first, the Power last.
func TestPartsOrder(t *testing.T) {
	checkParts(t, []Term{{3 * unit / 4, half, 3}}, 0, 2)   // 1.5 is 2, 1.5 is 2; the other way round it is 2.25, 2, and 1; at once 1.125
	checkParts(t, []Term{{half, 3 * unit / 4, 3}}, 0, 1)   // 2.25 is 2, and 1
	checkParts(t, []Term{{half, unit, 5}}, half, 1)        // 2.5 is 2, 1.33 is 1; by the Power first it is 3.33, 3, and 2
	checkParts(t, []Term{{unit, half, 7}}, unit, 2)        // 3.5 is 4, and 2; 1.75 at once
	checkParts(t, []Term{{half, half, 7}}, unit, 1)        // 3.5 is 4, 2, and 1; 0.875 at once
	checkParts(t, []Term{{half, half, 6}}, unit, 1)        // 3, 1.5 is 2, and 1; 0.75 at once
	checkParts(t, []Term{{half, half, 5}}, unit, 0)        // 2.5 is 2, 1, and 0.5 is 0; 0.625 at once
	checkParts(t, []Term{{}, {unit, unit, 3}}, unit, 0, 1) // by 4 it is 0.75; by 2 twice 1.5, 2, and 1
	checkParts(t, []Term{{}, {unit, unit, 5}}, unit, 0, 1) // 1.25; by 2 twice 2.5, 2, and 1
	checkParts(t, []Term{{}, {unit, unit, 7}}, unit, 0, 2) // 1.75; by 2 twice 3.5, 4, and 2
	checkParts(t, []Term{{}, {unit, unit, 10}}, unit, 0, 2)
	checkParts(t, []Term{{}, {unit, unit, 11}}, unit, 0, 3) // 2.75; by 2 twice 5.5, 6, and 3
	checkParts(t, []Term{{}, {unit, unit, 9}}, half, 0, 4)
	checkParts(t, []Term{{}, {unit, unit, 1}}, half, 0, 0) // 0.44; by 1.5 twice 0.67, 1, and 1
}

// P15.1, rule 3: of no terms, nil or empty, there are no parts, at any rate that may be.
func TestPartsNone(t *testing.T) {
	for _, l := range [][]Term{nil, {}, make([]Term, 0, 9), repeat(Term{-1, -1, -1}, 3)[3:], repeat(Term{-1, -1, -1}, 3)[:0]} {
		for _, r := range rates() {
			checkParts(t, l, r)
		}
		for _, r := range wrongRates() {
			checkCheck(t, l, api.OK)
			checkRefused(t, l, r, api.ErrArg)
		}
	}
}

// P15.1: as many terms as there may be, and more.
func TestPartsCount(t *testing.T) {
	for _, term := range []Term{{}, plain(), {unit, unit, rich}, {1, 1, 1}} {
		for _, n := range []int{1, 2, 3, room - 1, room} {
			l := repeat(term, n)
			if e := checkSlow(t, l, 0); e != api.OK {
				t.Error(n, e)
			}
			checkSlow(t, l, tenth/10)
		}
		for _, n := range []int{room + 1, room + 2, 2 * room, 10 * room, 1 << 20} {
			checkCheck(t, repeat(term, n), api.ErrFull)
			checkRefused(t, repeat(term, n), 0, api.ErrFull)
		}
	}
	spare := make([]Term, room, 2*room)
	checkParts(t, spare, 0, make([]int64, room)...)
}

// P15.1: all edges of a term together, one behind another, against the chapter's own words.
func TestPartsAllEdges(t *testing.T) {
	before := Term{tenth + 7, half, 1000}
	for _, fails := range shares() {
		for _, lost := range shares() {
			for _, of := range amounts() {
				for _, r := range rates() {
					term := Term{fails, lost, of}
					if e := checkSlow(t, []Term{term, before, term}, r); e != api.OK {
						t.Fatal(term, r, e)
					}
				}
			}
		}
	}
}

// P15.1: any terms and rates, against the chapter's own words.
func TestPartsAny(t *testing.T) {
	r := rand.New(rand.NewSource(1))
	wrong, count := wrongTerms(), map[api.Errno]int{}
	for i := range 3000 {
		n := r.Intn(30)
		if i%10 == 0 {
			n = r.Intn(room + 20)
		}
		l, at := someTerms(r, n), someRate(r)
		if n > 0 && r.Intn(8) == 0 {
			l[r.Intn(n)] = wrong[r.Intn(len(wrong))]
		}
		if r.Intn(16) == 0 {
			at = wrongRates()[r.Intn(len(wrongRates()))]
		}
		count[checkSlow(t, l, at)]++
	}
	if count[api.OK] < 1500 || count[api.ErrArg] < 300 || count[api.ErrOver] < 100 || count[api.ErrFull] < 3 {
		t.Error("too few:", count)
	}
}

// P15.1 ErrArg: a term that may not be, at each place of short lists, and at some of the longest one.
func TestWrongTerms(t *testing.T) {
	for _, wrong := range wrongTerms() {
		for n := 1; n <= 5; n++ {
			for at := range n {
				l := repeat(plain(), n)
				l[at] = wrong
				checkCheck(t, l, api.ErrArg)
				checkRefused(t, l, 0, api.ErrArg)
			}
		}
	}
	for _, wrong := range fewWrongTerms() {
		for _, at := range []int{0, 1, room / 2, room - 2, room - 1} {
			l := repeat(plain(), room)
			l[at] = wrong
			checkCheck(t, l, api.ErrArg)
			checkRefused(t, l, 0, api.ErrArg)
		}
		checkCheck(t, repeat(wrong, room), api.ErrArg)
	}
}

// P15.1 ErrArg: a term that fails for sure ahead of a wrong one doesn't hide it.
func TestWrongBehindTheEnd(t *testing.T) {
	for _, wrong := range fewWrongTerms() {
		l := []Term{{unit, unit, 1}, {unit, 0, 0}, wrong}
		checkCheck(t, l, api.ErrArg)
		checkRefused(t, l, 0, api.ErrArg)
	}
}

// P15.1 ErrArg: a rate that may not be, of few terms and of the most; those below 0 that layer 3 takes, too.
func TestWrongRates(t *testing.T) {
	for _, r := range wrongRates() {
		for _, n := range []int{1, 2, 7, room} {
			checkRefused(t, repeat(plain(), n), r, api.ErrArg)
			checkRefused(t, make([]Term, n), r, api.ErrArg)
		}
	}
	for _, r := range rates() {
		if _, e := Parts([]Term{plain()}, r); e != api.OK {
			t.Error(r, e)
		}
	}
}

// P15.1: too many terms come ahead of all else: of a wrong term at any place, and of a wrong rate.
func TestFullFirst(t *testing.T) {
	for _, wrong := range fewWrongTerms() {
		for _, at := range []int{0, 1, room / 2, room - 1, room} {
			l := make([]Term, room+1)
			l[at] = wrong
			checkCheck(t, l, api.ErrFull)
			for _, r := range []int64{0, top, -1, top + 1, least, most} {
				checkRefused(t, l, r, api.ErrFull)
			}
		}
		checkCheck(t, repeat(wrong, room+1), api.ErrFull)
	}
	for _, r := range wrongRates() {
		checkRefused(t, make([]Term, room+1), r, api.ErrFull)
	}
}

// P15.1: wrong terms and a wrong rate are ErrArg, alone and together, ahead of a Power that is too great.
func TestArgBeforeOver(t *testing.T) {
	for _, n := range []int{7, 8, 100, room} {
		checkRefused(t, repeat(plain(), n), top, api.ErrOver)
		checkRefused(t, repeat(plain(), n), top+1, api.ErrArg)
		for _, wrong := range fewWrongTerms() {
			for _, at := range []int{0, 5, 6, n - 1} {
				l := repeat(plain(), n)
				l[at] = wrong
				checkRefused(t, l, top, api.ErrArg)
				checkRefused(t, l, top+1, api.ErrArg)
				checkRefused(t, l, least, api.ErrArg)
			}
		}
	}
}

// P15.1, layer 3's ErrOver: as many periods as a rate's Power just isn't too great for, and one more; whatever the terms are, though nothing is lost.
func TestTooGreat(t *testing.T) {
	for _, x := range []struct {
		periods int
		r       int64
	}{{6, top}, {7, 8885172371882}, {8, 6423542784282}, {20, 1229690001363}, {120, 142985570495}, {360, 45555078681}, {599, 27135001288}, {600, 27089169194}} {
		for _, term := range []Term{{}, plain(), {unit, unit, rich}, {unit, unit, 0}, {0, unit, rich}} {
			l := repeat(term, x.periods)
			if e := checkSlow(t, l, x.r); e != api.OK {
				t.Error(x.periods, x.r, e)
			}
			if x.r < top {
				checkRefused(t, l, x.r+1, api.ErrOver)
				if e := checkSlow(t, l[1:], x.r+1); e != api.OK {
					t.Error(x.periods-1, x.r+1, e)
				}
			}
			if x.periods < room {
				checkRefused(t, append(l, term), x.r, api.ErrOver)
			}
		}
	}
	for n := 7; n <= room; n += 31 {
		checkRefused(t, make([]Term, n), top, api.ErrOver)
		checkRefused(t, repeat(plain(), n), top-1, api.ErrOver)
	}
}

// P15.1: a part hangs on its own term and those ahead, on nothing behind; of those ahead on their Fails alone.
func TestBeginning(t *testing.T) {
	r := rand.New(rand.NewSource(2))
	for range 200 {
		l, at := someTerms(r, 1+r.Intn(40)), r.Int63n(tenth)
		all, e := Parts(l, at)
		if e != api.OK || len(all) != len(l) {
			t.Fatal(all, e)
		}
		n := r.Intn(len(l) + 1)
		checkParts(t, l[:n], at, all[:n]...)
		other := slices.Clone(l)
		for i := range other[:n] {
			other[i].Lost, other[i].Of = someShare(r), someAmount(r)
		}
		got, e := Parts(other, at)
		if e != api.OK || !slices.Equal(got[n:], all[n:]) {
			t.Fatalf("%v and %v at %d: %v and %v", l, other, at, all, got)
		}
	}
}
