package stage

import (
	"math"
	"math/rand"
	"slices"
	"testing"

	"lombard/api"
)

const (
	room  = api.MaxPeriods
	least = math.MinInt
	most  = math.MaxInt
)

// wrongPasts are beyond 0 to 10000: one beyond, and far.
func wrongPasts() []int {
	return []int{-1, 10001, -2, 10002, -30, -90, -10000, 100000, 1 << 31, -1 << 31, 1<<32 + 5, least, least + 1, most - 1, most}
}

// wrongDowns are beyond -100 to 100.
func wrongDowns() []int {
	return []int{-101, 101, -102, 102, 1000, -1000, 1 << 31, -1 << 31, 1 << 32, least, least + 1, most - 1, most}
}

func pasts() []int {
	return []int{0, 1, 28, 29, 30, 31, 60, 88, 89, 90, 91, 1000, 9999, 10000}
}

func downs() []int {
	return []int{-100, -99, -3, -1, 0, 1, 2, 3, 4, 50, 99, 100}
}

// marksOf are all that have one of these parts each, Bad and not.
func marksOf(pasts, downs []int) []Mark {
	var all []Mark
	for _, past := range pasts {
		for _, down := range downs {
			all = append(all, Mark{past, down, false}, Mark{past, down, true})
		}
	}
	return all
}

func marks() []Mark {
	return marksOf(pasts(), downs())
}

func wrongMarks() []Mark {
	return slices.Concat(marksOf(wrongPasts(), downs()), marksOf(pasts(), wrongDowns()), marksOf(wrongPasts(), wrongDowns()))
}

// states are all that may be.
func states() []State {
	return []State{{1, 0}, {2, 0}, {2, 1}, {2, 2}, {3, 0}, {3, 1}, {3, 2}}
}

func wrongStates() []State {
	all := []State{{1, 1}, {1, 2}, {1, -1}, {1, 3}}
	for _, n := range []int{0, 4, -1, 5, -2, -3, 1<<32 + 1, least, least + 1, most - 1, most} {
		for _, good := range []int{0, 1, 2, -1, 3, least, most} {
			all = append(all, State{n, good})
		}
	}
	for _, good := range []int{-1, 3, -2, 4, 1 << 32, least, least + 1, most - 1, most} {
		all = append(all, State{1, good}, State{2, good}, State{3, good})
	}
	return all
}

// of is some marks that tell this stage, each for another cause.
func of(n int) []Mark {
	switch n {
	case 1:
		return []Mark{{}, {Past: 29}, {Down: 2}, {Down: -100}, {29, 2, false}, {29, -100, false}}
	case 2:
		return []Mark{{Past: 30}, {Past: 89}, {Down: 3}, {Down: 100}, {89, 100, false}, {30, -100, false}, {29, 3, false}, {30, 2, false}}
	}
	return []Mark{{Past: 90}, {Past: 10000}, {Bad: true}, {90, -100, false}, {90, 100, false}, {29, 2, true}, {89, 100, true}, {10000, 100, true}, {0, -100, true}}
}

// telling are marks that tell these stages, for changing causes.
func telling(stages ...int) []Mark {
	var l []Mark
	for i, n := range stages {
		some := of(n)
		l = append(l, some[i%len(some)])
	}
	return l
}

// slowWorst is the chapter's words: what each part of a mark tells, and the worst of that.
func slowWorst(m Mark) int {
	n := 1
	if m.Past > 29 {
		n = 2
	}
	if m.Down > 2 {
		n = 2
	}
	if m.Past > 89 {
		n = 3
	}
	if m.Bad {
		n = 3
	}
	return n
}

func slowMay(m Mark) bool {
	return !(m.Past < 0 || m.Past > 10000 || m.Down < -100 || m.Down > 100)
}

// slowNext looks the state up among those that may be.
func slowNext(s State, m Mark) (State, api.Errno) {
	if !slices.Contains(states(), s) || !slowMay(m) {
		return State{}, api.ErrArg
	}
	worst := slowWorst(m)
	if worst >= s.Stage {
		return State{worst, 0}, api.OK
	}
	s.Good++
	if s.Good == 3 {
		return State{s.Stage - 1, 0}, api.OK
	}
	return s, api.OK
}

// slowRun reckons a stage without a state: it goes back from each place as far as the stage stood, and counts the better marks up to it.
func slowRun(l []Mark) ([]int, api.Errno) {
	if len(l) > room {
		return nil, api.ErrFull
	}
	stages := []int{}
	for i, m := range l {
		if !slowMay(m) {
			return nil, api.ErrArg
		}
		ahead := 1
		if i > 0 {
			ahead = stages[i-1]
		}
		worst := slowWorst(m)
		if worst >= ahead {
			stages = append(stages, worst)
			continue
		}
		row := 1 // better marks, behind the last time that the stage came to be, or was confirmed
		for j := i - 1; j > 0 && stages[j-1] == ahead && slowWorst(l[j]) < ahead; j-- {
			row++
		}
		if row == 3 {
			ahead--
		}
		stages = append(stages, ahead)
	}
	return stages, api.OK
}

func checkNext(t *testing.T, s State, m Mark, want State, e api.Errno) {
	t.Helper()
	if got, gotE := Next(s, m); got != want || gotE != e {
		t.Errorf("Next(%+v, %+v): %+v, %d; wanted %+v, %d", s, m, got, gotE, want, e)
	}
}

func checkRun(t *testing.T, l []Mark, want ...int) {
	t.Helper()
	if got, e := Run(l); !slices.Equal(got, want) || e != api.OK {
		t.Errorf("Run(%+v): %v, %d; wanted %v", l, got, e, want)
	}
}

func checkRunRefused(t *testing.T, l []Mark, e api.Errno) {
	t.Helper()
	if got, gotE := Run(l); len(got) != 0 || gotE != e {
		t.Errorf("Run of %d marks: %d stages, %d; wanted the error %d", len(l), len(got), gotE, e)
	}
}

// someMark is any that may be, often at an edge; better ones come more often than worse ones, so that stages get better, too.
func someMark(r *rand.Rand) Mark {
	if r.Intn(4) > 0 {
		return Mark{Past: r.Intn(30), Down: r.Intn(103) - 100}
	}
	some := of(1 + r.Intn(3))
	if r.Intn(2) == 0 {
		return some[r.Intn(len(some))]
	}
	return Mark{r.Intn(10001), r.Intn(201) - 100, r.Intn(3) == 0}
}

func someMarks(r *rand.Rand, n int) []Mark {
	l := make([]Mark, n)
	for i := range l {
		l[i] = someMark(r)
	}
	return l
}

// eachRow calls f with all rows of so many stages.
func eachRow(n int, f func([]int)) {
	row := slices.Repeat([]int{1}, n)
	for {
		f(row)
		i := 0
		for i < n && row[i] == 3 {
			row[i] = 1
			i++
		}
		if i == n {
			return
		}
		row[i]++
	}
}
