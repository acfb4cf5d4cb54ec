package stage

import (
	"testing"

	"lombard/api"
)

// P14.2: each state that may be, against each stage that a mark tells, for each cause.
func TestNextNamed(t *testing.T) {
	for _, x := range []struct {
		ahead State
		worst int
		want  State
	}{
		{State{1, 0}, 1, State{1, 0}},
		{State{1, 0}, 2, State{2, 0}},
		{State{1, 0}, 3, State{3, 0}},
		{State{2, 0}, 1, State{2, 1}},
		{State{2, 0}, 2, State{2, 0}},
		{State{2, 0}, 3, State{3, 0}},
		{State{2, 1}, 1, State{2, 2}},
		{State{2, 1}, 2, State{2, 0}},
		{State{2, 1}, 3, State{3, 0}},
		{State{2, 2}, 1, State{1, 0}},
		{State{2, 2}, 2, State{2, 0}},
		{State{2, 2}, 3, State{3, 0}},
		{State{3, 0}, 1, State{3, 1}},
		{State{3, 0}, 2, State{3, 1}},
		{State{3, 0}, 3, State{3, 0}},
		{State{3, 1}, 1, State{3, 2}},
		{State{3, 1}, 2, State{3, 2}},
		{State{3, 1}, 3, State{3, 0}},
		{State{3, 2}, 1, State{2, 0}},
		{State{3, 2}, 2, State{2, 0}},
		{State{3, 2}, 3, State{3, 0}},
	} {
		for _, m := range of(x.worst) {
			checkNext(t, x.ahead, m, x.want, api.OK)
		}
	}
}

// P14.2: marks at the bounds of what may be are taken, in each state; and all answers are the chapter's.
func TestNextAll(t *testing.T) {
	for _, s := range states() {
		for _, m := range marks() {
			want, e := slowNext(s, m)
			if e != api.OK {
				t.Fatalf("the test is wrong: %+v, %+v", s, m)
			}
			checkNext(t, s, m, want, api.OK)
		}
	}
}

// P14.2: a mark that may not be, one beyond each bound first; beside the error there is no state.
func TestNextWrongMark(t *testing.T) {
	for _, s := range states() {
		for _, m := range []Mark{{Past: -1}, {Past: 10001}, {Down: -101}, {Down: 101}, {Past: least}, {Past: most}, {Down: least}, {Down: most}, {-1, 0, true}, {0, 101, true}} {
			checkNext(t, s, m, State{}, api.ErrArg)
		}
		for _, m := range wrongMarks() {
			checkNext(t, s, m, State{}, api.ErrArg)
		}
	}
}

// P14.2: a state that may not be: the Stage 1 with better marks, a Stage of 0 and of 4, a Good of -1 and of 3, and far beyond.
func TestNextWrongState(t *testing.T) {
	for _, m := range marks() {
		for _, s := range []State{{}, {0, 0}, {4, 0}, {1, 1}, {1, 2}, {1, -1}, {2, -1}, {2, 3}, {3, -1}, {3, 3}, {least, 0}, {most, 0}, {2, least}, {2, most}, {3, least}, {3, most}} {
			checkNext(t, s, m, State{}, api.ErrArg)
		}
		for _, s := range wrongStates() {
			checkNext(t, s, m, State{}, api.ErrArg)
		}
	}
}

// P14.2, P1: neither may be.
func TestNextBothWrong(t *testing.T) {
	for _, s := range wrongStates() {
		for _, m := range []Mark{{Past: -1}, {Past: 10001}, {Down: -101}, {Down: 101}, {least, least, false}, {most, most, true}} {
			checkNext(t, s, m, State{}, api.ErrArg)
		}
	}
}

// P14.2: all states and marks about what may be.
func TestNextAbout(t *testing.T) {
	taken := 0
	for n := -2; n <= 6; n++ {
		for good := -3; good <= 6; good++ {
			for _, m := range marksOf([]int{-1, 0, 29, 30, 89, 90, 10000, 10001}, []int{-101, -100, 2, 3, 100, 101}) {
				s := State{n, good}
				want, e := slowNext(s, m)
				checkNext(t, s, m, want, e)
				if e == api.OK {
					taken++
				}
			}
		}
	}
	if want := 7 * 6 * 4 * 2; taken != want {
		t.Errorf("the test is wrong: %d were taken, not %d", taken, want)
	}
}

// P14.2: what comes of a state that may be may be, so it can be handed in again.
func TestNextMayBe(t *testing.T) {
	for _, s := range states() {
		for _, m := range marks() {
			next, e := Next(s, m)
			if e != api.OK {
				t.Fatalf("%+v, %+v: %d", s, m, e)
			}
			if _, e := Next(next, Mark{}); e != api.OK {
				t.Errorf("%+v, %+v: %+v may not be", s, m, next)
			}
		}
	}
}
