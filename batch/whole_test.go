package batch

import (
	"math/rand"
	"slices"
	"sync"
	"testing"

	"lombard/api"
	"lombard/chart"
)

// mustPut are a batch's bytes.
func mustPut(t *testing.T, b Batch) []byte {
	t.Helper()
	bytes, e := Put(b)
	if e != api.OK {
		t.Fatalf("%v: %d", b, e)
	}
	return bytes
}

// P18.3: what is put is got, and that is put as it was.
func TestPutIsGot(t *testing.T) {
	r := rand.New(rand.NewSource(6))
	all := someBatches()
	for range 5000 {
		all = append(all, someBatch(r))
	}
	for _, seq := range mayNumbers() {
		for _, event := range mayNumbers() {
			all = append(all, Batch{seq, event, nil}, Batch{seq, event, []chart.Line{}}, Batch{seq, event, lines(3, 5, 6, -5)})
		}
	}
	for _, b := range all {
		bytes := mustPut(t, b)
		got, e := Get(bytes)
		if e != api.OK || !equal(got, b) {
			t.Fatalf("%v: %v, %d", b, got, e)
		}
		if again := mustPut(t, got); !slices.Equal(again, bytes) {
			t.Fatalf("%v: %v; wanted %v", b, told(again), told(bytes))
		}
	}
}

// P18.3: what is got is put as it was, of bytes that weren't put by Put.
func TestGotIsPut(t *testing.T) {
	r := rand.New(rand.NewSource(7))
	got := 0
	for range 10000 {
		body := slowBody(someBatch(r))
		for range r.Intn(3) {
			body[r.Intn(11)] = byte(r.Intn(256))
		}
		bytes := summed(body)
		b, e := Get(bytes)
		if e != api.OK {
			continue
		}
		got++
		if again := mustPut(t, b); !slices.Equal(again, bytes) {
			t.Fatalf("%v: %v", told(bytes), told(again))
		}
	}
	if got < 5000 {
		t.Error(got)
	}
}

// P18.3: with any one bit turned, at every place of the bytes, it isn't got, and nothing is answered beside the error.
func TestTurned(t *testing.T) {
	for _, b := range someBatches() {
		bytes := mustPut(t, b)
		for at := range 8 * len(bytes) {
			bytes[at/8] ^= 1 << (at % 8)
			want := turnedError(len(b.Lines), at)
			if got, e := Get(bytes); e != want || !equal(got, Batch{}) {
				t.Errorf("%d lines, the bit %d: %v, %d; wanted %d", len(b.Lines), at, got, e, want)
			}
			bytes[at/8] ^= 1 << (at % 8)
		}
		if got, e := Get(bytes); e != api.OK || !equal(got, b) {
			t.Errorf("%v: %v, %d", b, got, e)
		}
	}
}

// turnedError is what bytes are with a bit turned: of the first two another form, of how many lines there are too few or too many, else another sum.
func turnedError(lines, at int) api.Errno {
	if at < 16 {
		return api.ErrForm
	}
	if at/8 != 10 {
		return api.ErrSum
	}
	if lines^1<<(at%8) > lines {
		return api.ErrShort
	}
	return api.ErrForm
}

// P18.3: two batches that aren't the same have other bytes.
func TestOneToOne(t *testing.T) {
	r := rand.New(rand.NewSource(8))
	seen := map[string]Batch{}
	for range 3000 {
		b := Batch{r.Intn(4), r.Intn(4), pairs(2*r.Intn(3), 1+r.Int63n(3))}
		key := string(mustPut(t, b))
		if was, ok := seen[key]; ok && !equal(was, b) {
			t.Errorf("%v, %v", was, b)
		}
		seen[key] = b
	}
	// 16 pairs of numbers without lines; 3 amounts each with two lines and with four.
	if len(seen) != 16*(1+2*3) {
		t.Error(len(seen))
	}
}

// Rule 4: lines and bytes are as they were, with what lies beside them and in their spare room, whatever is answered.
func TestNotChanged(t *testing.T) {
	l := append(pairs(6, 9), lines(0, 9, 0, 0, 7, most, 2, 0, 5, least, 1, 5)...)
	was := slices.Clone(l)
	for from := range l {
		for to := from; to <= len(l); to++ {
			Check(Batch{1, 2, l[from:to]})
			Put(Batch{1, 2, l[from:to]})
			Put(Batch{-1, 2, l[from:to]})
		}
	}
	if !slices.Equal(l, was) {
		t.Error(l)
	}
	bytes := append([]byte{1, 2, 3}, mustPut(t, Batch{1, 2, pairs(4, 9)})...)
	bytes = append(bytes, 4, 5, 6)
	wasBytes := slices.Clone(bytes)
	for from := range 5 {
		for to := from; to <= len(bytes); to++ {
			Sum(bytes[from:to])
			Get(bytes[from:to])
		}
	}
	if !slices.Equal(bytes, wasBytes) {
		t.Error(bytes)
	}
}

// fill overwrites a list and its spare room.
func fill[T any](l []T, x T) {
	l = l[:cap(l)]
	for i := range l {
		l[i] = x
	}
}

// Rule 4: bytes that were put share nothing with others, nor a batch that was got with its bytes or with another one.
func TestNotShared(t *testing.T) {
	for _, b := range someBatches() {
		was := slices.Clone(b.Lines)
		first, second := mustPut(t, b), mustPut(t, b)
		kept := slices.Clone(second)
		fill(first, 170)
		if !slices.Equal(second, kept) || !slices.Equal(mustPut(t, b), kept) || !slices.Equal(b.Lines, was) {
			t.Errorf("%v: %v; wanted %v", b, told(second), told(kept))
		}
		one, _ := Get(second)
		other, _ := Get(second)
		fill(one.Lines, chart.Line{Account: -1, Amount: -1})
		if !slices.Equal(second, kept) || !equal(other, b) {
			t.Errorf("%v: %v", b, other)
		}
		fill(second, 170)
		if !equal(other, b) {
			t.Errorf("%v: %v", b, other)
		}
		if again, e := Get(kept); e != api.OK || !equal(again, b) {
			t.Errorf("%v: %v, %d", b, again, e)
		}
	}
}

// Rule 4: what was put isn't kept: lines that are changed behind a Put leave its bytes as they were.
func TestNotKept(t *testing.T) {
	l := pairs(4, 9)
	bytes := mustPut(t, Batch{1, 2, l})
	kept := slices.Clone(bytes)
	fill(l, chart.Line{})
	if !slices.Equal(bytes, kept) {
		t.Error(bytes)
	}
	checkPut(t, Batch{1, 2, l}, api.ErrArg)
}

// Rules 2 and 3: of a batch without lines there are none, and nil and empty ones have the same bytes.
func TestNoLines(t *testing.T) {
	for _, l := range [][]chart.Line{nil, {}, pairs(4, 9)[:0]} {
		bytes := checkPut(t, Batch{1, 1, l}, api.OK)
		if !slices.Equal(bytes, []byte{76, 66, 1, 0, 0, 0, 1, 0, 0, 0, 0, 170, 208, 129, 7}) {
			t.Error(bytes)
		}
		if got := checkGet(t, bytes, api.OK); got.Seq != 1 || got.Event != 1 || len(got.Lines) != 0 {
			t.Error(got)
		}
	}
}

// Rule 5: calls at the same time don't touch one another, though they share what is handed in.
func TestAtOnce(t *testing.T) {
	all := someBatches()
	var joined sync.WaitGroup
	for i := range 8 {
		joined.Go(func() {
			for n := range 200 {
				b := all[(i+n)%len(all)]
				bytes, e := Put(b)
				if want, _ := slowPut(b); !slices.Equal(bytes, want) || e != api.OK {
					t.Errorf("%d: %v, %d", i, told(bytes), e)
				}
				if Sum(bytes) != 0x2144DF1C {
					t.Errorf("%d: %x", i, Sum(bytes))
				}
				got, e := Get(bytes)
				if !equal(got, b) || e != api.OK {
					t.Errorf("%d: %v, %d", i, got, e)
				}
				fill(bytes, 170)
				fill(got.Lines, chart.Line{})
			}
		})
	}
	joined.Wait()
}

// The generic function itself: the lowest bytes of a number of each type, behind those that are there, and the number of such bytes.
func TestPutNumber(t *testing.T) {
	check := func(got, want []byte) {
		t.Helper()
		if !slices.Equal(got, want) {
			t.Errorf("%v; wanted %v", got, want)
		}
	}
	check(put(nil, 0x01020304, 4), []byte{4, 3, 2, 1})
	check(put([]byte{9}, int64(0x0102030405060708), 8), []byte{9, 8, 7, 6, 5, 4, 3, 2, 1})
	check(put([]byte{9, 8}, uint32(0xfffefdfc), 4), []byte{9, 8, 0xfc, 0xfd, 0xfe, 0xff})
	check(put(nil, int64(-2), 8), []byte{254, 255, 255, 255, 255, 255, 255, 255})
	check(put(nil, int64(least), 8), []byte{0, 0, 0, 0, 0, 0, 0, 128})
	check(put(nil, 0x0304, 1), []byte{4})
	check(put([]byte{5}, 7, 0), []byte{5})
	for _, n := range append(amounts(), 0, least, most) {
		if got := number[int64](put(nil, n, 8)); got != n {
			t.Errorf("%d; wanted %d", got, n)
		}
		if got := number[uint32](put(nil, uint32(n), 4)); got != uint32(n) {
			t.Errorf("%d; wanted %d", got, uint32(n))
		}
	}
	for _, n := range append(mayNumbers(), 1<<31, 1<<32-1) {
		if got := number[int](put(nil, n, 4)); got != n {
			t.Errorf("%d; wanted %d", got, n)
		}
	}
	if got := number[int](nil); got != 0 {
		t.Error(got)
	}
}
