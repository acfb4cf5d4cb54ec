package stage

import (
	"math/rand"
	"slices"
	"testing"

	"lombard/api"
)

// P14.2: by hand, the document's example first.
func TestRunNamed(t *testing.T) {
	checkRun(t, []Mark{{Past: 30}, {}, {}, {}}, 2, 2, 2, 1)
	checkRun(t, []Mark{{}}, 1)
	checkRun(t, []Mark{{Past: 30}}, 2)
	checkRun(t, []Mark{{Bad: true}}, 3)
	checkRun(t, []Mark{{Bad: true}, {}, {}, {}, {}, {}, {}, {}}, 3, 3, 3, 2, 2, 2, 1, 1)
	checkRun(t, []Mark{{Past: 90}, {Past: 89}, {Down: 3}, {Past: 30}, {Past: 30}, {}, {}, {}}, 3, 3, 3, 2, 2, 2, 2, 1)
	checkRun(t, []Mark{{Past: 30}, {}, {}, {Past: 30}, {}, {}, {}}, 2, 2, 2, 2, 2, 2, 1)   // set back by a mark that is no better
	checkRun(t, []Mark{{Past: 30}, {}, {}, {Past: 90}, {}, {}, {}}, 2, 2, 2, 3, 3, 3, 2)   // and by a worse one
	checkRun(t, []Mark{{Past: 90}, {}, {Past: 90}, {}, {}, {Down: 3}}, 3, 3, 3, 3, 3, 2)   // a milder stage is better, too
	checkRun(t, []Mark{{Past: 90}, {}, {}, {}, {}, {Past: 30}, {}}, 3, 3, 3, 2, 2, 2, 2)   // counted anew in the better stage
	checkRun(t, []Mark{{}, {}, {}, {Past: 30}, {}, {}, {}, {}}, 1, 1, 1, 2, 2, 2, 1, 1)    // better marks of the Stage 1 aren't counted
	checkRun(t, []Mark{{Past: 30}, {Past: 89}, {Down: 100}, {}, {}, {}}, 2, 2, 2, 2, 2, 1) // nor those that are no better
}

// P14.2: of no marks, nil or empty, there are no stages, and that is no error.
func TestRunNone(t *testing.T) {
	for _, l := range [][]Mark{nil, {}, make([]Mark, 0, 9), make([]Mark, 3)[3:]} {
		if got, e := Run(l); len(got) != 0 || e != api.OK {
			t.Errorf("%v: %v, %d", l, got, e)
		}
	}
}

// P14.2: as many marks as there may be, each stage of them; and one more.
func TestRunLongest(t *testing.T) {
	for n := 1; n <= 3; n++ {
		for _, m := range of(n) {
			checkRun(t, slices.Repeat([]Mark{m}, room-1), slices.Repeat([]int{n}, room-1)...)
			checkRun(t, slices.Repeat([]Mark{m}, room), slices.Repeat([]int{n}, room)...)
			checkRunRefused(t, slices.Repeat([]Mark{m}, room+1), api.ErrFull)
		}
	}
	late := append(slices.Repeat([]Mark{{}}, room-1), Mark{Bad: true})
	checkRun(t, late, append(slices.Repeat([]int{1}, room-1), 3)...)
	for _, n := range []int{room + 1, room + 2, 2 * room, 10 * room, 1 << 20} {
		checkRunRefused(t, make([]Mark, n), api.ErrFull)
	}
}

// P14.2: a mark that may not be, at each place: its error, and none of the stages ahead of it.
func TestRunWrong(t *testing.T) {
	for _, m := range wrongMarks() {
		checkRunRefused(t, []Mark{m}, api.ErrArg)
		for at := range 5 {
			l := telling(1, 2, 3, 2, 1)
			l[at] = m
			checkRunRefused(t, l, api.ErrArg)
		}
	}
	for _, m := range []Mark{{Past: -1}, {Past: 10001}, {Down: -101}, {Down: 101}, {Past: least}, {Past: most}, {Down: least}, {Down: most}, {-1, -101, true}} {
		for _, at := range []int{0, 1, room / 2, room - 2, room - 1} {
			l := make([]Mark, room)
			l[at] = m
			checkRunRefused(t, l, api.ErrArg)
		}
		checkRunRefused(t, slices.Repeat([]Mark{m}, room), api.ErrArg)
	}
}

// P14.2: too many marks, and a wrong one among them: that they are too many counts first.
func TestRunFullFirst(t *testing.T) {
	for _, m := range []Mark{{Past: -1}, {Past: 10001}, {Down: -101}, {Down: 101}, {least, most, true}} {
		for _, at := range []int{0, room / 2, room - 1, room} {
			l := make([]Mark, room+1)
			l[at] = m
			checkRunRefused(t, l, api.ErrFull)
		}
		checkRunRefused(t, slices.Repeat([]Mark{m}, room+1), api.ErrFull)
	}
}

// P14.2: all rows of up to eight marks, by the stages that they tell, against stages that are reckoned without a state.
func TestRunAllRows(t *testing.T) {
	for n := 1; n <= 8; n++ {
		eachRow(n, func(row []int) {
			l := telling(row...)
			want, e := slowRun(l)
			if got, gotE := Run(l); !slices.Equal(got, want) || gotE != api.OK || e != api.OK {
				t.Fatalf("%v: %v, %d; wanted %v, %d", row, got, gotE, want, e)
			}
		})
	}
}

// P14.2, P1: any marks, long rows and short ones, some of them with a wrong mark.
func TestRunAny(t *testing.T) {
	r := rand.New(rand.NewSource(1))
	wrong, told := wrongMarks(), map[api.Errno]int{}
	for range 2000 {
		l := someMarks(r, r.Intn(room+20))
		if len(l) > 0 && r.Intn(3) == 0 {
			l[r.Intn(len(l))] = wrong[r.Intn(len(wrong))]
		}
		want, e := slowRun(l)
		if got, gotE := Run(l); !slices.Equal(got, want) || gotE != e {
			t.Fatalf("%v: %v, %d; wanted %v, %d", l, got, gotE, want, e)
		}
		told[e]++
	}
	if told[api.OK] < 1000 || told[api.ErrArg] < 400 || told[api.ErrFull] < 20 {
		t.Error("too few:", told)
	}
}

// P14.2: a run is Next upon Next, from the Stage 1 and Good 0 on; and the beginning of a row has the beginning of its stages.
func TestRunIsNext(t *testing.T) {
	r := rand.New(rand.NewSource(2))
	for range 200 {
		l := someMarks(r, 1+r.Intn(40))
		all, e := Run(l)
		if e != api.OK || len(all) != len(l) {
			t.Fatalf("%v: %v, %d", l, all, e)
		}
		s := State{1, 0}
		for i, m := range l {
			if s, e = Next(s, m); e != api.OK || s.Stage != all[i] {
				t.Fatalf("%v at %d: %+v, %d; Run: %v", l, i, s, e, all)
			}
			checkRun(t, l[:i+1], all[:i+1]...)
		}
	}
}
