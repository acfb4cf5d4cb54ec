package journal

import (
	"fmt"
	"math/rand"
	"testing"

	"lombard/block"
)

// someBlock is any: noughts, a record's part that may be the next one, one that is wrong by one of the causes, or anything else.
func (h *held) someBlock(r *rand.Rand) block.Block {
	row := slowBlocks(1+r.Intn(len(h.slow.records)+2), record(r.Intn(1000), r.Intn(200)))
	b := row[r.Intn(len(row))]
	switch r.Intn(6) {
	case 0:
		return block.Block{}
	case 1:
		r.Read(b[:])
	case 2:
		b[r.Intn(len(b))]++
	case 3:
		b[r.Intn(60)]++
		return sealed(b)
	}
	return b
}

// step does anything, and holds all behind it.
func (h *held) step(r *rand.Rand, n int) {
	h.t.Helper()
	switch r.Intn(20) {
	default:
		h.append(record(n, r.Intn([]int{2, 54, 108, 500}[r.Intn(4)])))
	case 0, 1:
		h.sync()
	case 2, 3, 4:
		h.open()
	case 5, 6, 7:
		h.crash(someFates(r, h.s.Waiting())...)
		h.open()
	case 8:
		h.crash(someFates(r, h.s.Waiting())...) // the journal goes on as it was
	case 9, 10:
		for range 1 + r.Intn(3) {
			h.write(r.Intn(h.s.Size()), h.someBlock(r))
		}
	case 11:
		h.write(h.slow.used()%h.s.Size(), h.someBlock(r))
		h.open()
	}
}

// P20.1, P20.2: many steps of all kinds, one behind another: what each answers, what records there are, how many blocks they have, what every block of the store is behind each.
func TestWalk(t *testing.T) {
	for seed := range 200 {
		t.Run(fmt.Sprint(seed), func(t *testing.T) {
			r := rand.New(rand.NewSource(int64(seed)))
			h := hold(t, 1+r.Intn([]int{3, 12, 40}[r.Intn(3)]))
			for n := range 80 {
				h.step(r, n)
			}
		})
	}
}

// P20.1, P20.2: such steps on a store where most of what may wait waits.
func TestWalkFull(t *testing.T) {
	for seed := range 30 {
		t.Run(fmt.Sprint(seed), func(t *testing.T) {
			r := rand.New(rand.NewSource(int64(seed)))
			h := hold(t, 4+r.Intn(12))
			for n := range 60 {
				if _, e := h.s.Read(h.s.Size() - 1); n%10 == 0 && e == 0 {
					h.fill(r.Intn(8))
				}
				h.step(r, n)
			}
		})
	}
}
