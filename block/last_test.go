package block

import (
	"math/rand"
	"slices"
	"testing"

	"lombard/api"
)

// seen is a block as Read answers it.
type seen struct {
	b Block
	e api.Errno
}

// look is each block of a store.
func look(s *Store) []seen {
	var l []seen
	for at := range s.Size() {
		b, e := s.Read(at)
		l = append(l, seen{b, e})
	}
	return l
}

// stepped does some steps with a store, and leaves some writes to wait.
func stepped(r *rand.Rand, s *Store, steps int) {
	for range steps {
		switch r.Intn(8) {
		case 0:
			s.Sync()
		case 1:
			s.Crash(someFates(r, s.Waiting()))
		default:
			s.Write(r.Intn(s.Size()), numbered(r.Intn(1000)))
		}
	}
}

// P19.3: what lasts lasts through any crash, and through any number of them: a block that isn't written behind a sync is as it was then.
func TestLasts(t *testing.T) {
	for seed := range int64(200) {
		r := rand.New(rand.NewSource(seed))
		s := mustNew(t, 1+r.Intn(20))
		stepped(r, s, 60)
		s.Sync()
		was := look(s)
		written := make([]bool, s.Size())
		for range 5 {
			for range r.Intn(6) {
				at := r.Intn(s.Size())
				s.Write(at, numbered(2000))
				written[at] = true
			}
			s.Crash(someFates(r, s.Waiting()))
			for at, now := range look(s) {
				if !written[at] && now != was[at] {
					t.Fatalf("%d, %d: %v; wanted %v", seed, at, now, was[at])
				}
			}
		}
	}
}

// P19.3: with all that waits gone, all blocks are as they lasted.
func TestAllGone(t *testing.T) {
	for seed := range int64(200) {
		r := rand.New(rand.NewSource(seed))
		s := mustNew(t, 1+r.Intn(20))
		stepped(r, s, 60)
		s.Sync()
		was := look(s)
		for range 4 {
			for range r.Intn(30) {
				s.Write(r.Intn(s.Size()), numbered(2000))
			}
			s.Crash([][]uint8{nil, {}, {0, 3}, slices.Repeat([]uint8{255}, 40)}[r.Intn(4)])
			if now := look(s); !slices.Equal(now, was) {
				t.Fatalf("%d: %v; wanted %v", seed, now, was)
			}
		}
	}
}

// P19.3: with fates of 1 alone a crash is a sync: both leave the same, and what comes behind them is the same.
func TestCrashIsSync(t *testing.T) {
	for seed := range int64(200) {
		r := rand.New(rand.NewSource(seed))
		synced, crashed := mustNew(t, 9), mustNew(t, 9)
		for range 10 {
			steps := r.Int63()
			stepped(rand.New(rand.NewSource(steps)), synced, 20)
			stepped(rand.New(rand.NewSource(steps)), crashed, 20)
			if synced.Waiting() != crashed.Waiting() {
				t.Fatal(synced.Waiting(), crashed.Waiting())
			}
			before := look(synced)
			synced.Sync()
			crashed.Crash(slices.Repeat([]uint8{1, 4, 253}[r.Intn(3):][:1], crashed.Waiting()+r.Intn(3)))
			now, other := look(synced), look(crashed)
			if !slices.Equal(now, other) || crashed.Waiting() != 0 {
				t.Fatalf("%d: %v; wanted %v", seed, other, now)
			}
			if !slices.Equal(now, before) {
				t.Fatalf("%d: behind Sync %v; wanted %v", seed, now, before)
			}
		}
	}
}

// P19.3: of a torn block, too: nothing but a write of it mends it.
func TestTornLasts(t *testing.T) {
	h := hold(t, 3)
	h.write(1, numbered(1))
	h.sync()
	h.write(1, numbered(2))
	h.crash(2)
	for n := range 10 {
		h.write(n%2*2, numbered(n))
		h.crash(uint8(n))
		h.read(1, Block{}, api.ErrSum)
		h.write(n%2*2, numbered(n))
		h.sync()
		h.read(1, Block{}, api.ErrSum)
	}
	h.write(1, numbered(3))
	h.crash(1)
	h.read(1, numbered(3), api.OK)
	h.crash(2, 2)
	h.read(1, numbered(3), api.OK)
}
