package batch

import (
	"encoding/binary"
	"math"
	"math/big"
	"math/rand"
	"slices"
	"testing"

	"lombard/api"
	"lombard/chart"
)

const (
	great   = 1 << 50
	room    = 64
	highest = 2147483647
	least   = math.MinInt64
	most    = math.MaxInt64
)

// mayNumbers may be a Seq and an Event: the bounds, and where a byte more is needed.
func mayNumbers() []int {
	return []int{0, 1, 7, 127, 128, 255, 256, 258, 65535, 65536, 1<<24 - 1, 1 << 24, 0x01020304, highest - 1, highest}
}

// wrongNumbers may not; the last ones may, if all but their lowest four bytes are cut off.
func wrongNumbers() []int {
	return []int{-1, -2, -256, highest + 1, highest + 2, 1<<32 - 1, -highest, math.MinInt, math.MaxInt, 1 << 32, 1<<32 + 1, 1<<62 + 5, math.MinInt + 1, -1 << 32}
}

// wrongLines are lines that may not be beside ones that may: by an account, or by an amount.
func wrongLines() []chart.Line {
	var l []chart.Line
	for _, n := range []int{0, 8, -1, 9, 255, 256, 257, -255, 1 << 32, 1<<32 + 1, math.MinInt, math.MaxInt, math.MinInt + 1} {
		l = append(l, chart.Line{Account: n, Amount: 5}, chart.Line{Account: n, Amount: -great}, chart.Line{Account: n, Amount: least})
	}
	for _, n := range []int64{0, great + 1, -great - 1, 2 * great, 1 << 62, -1 << 62, least, least + 1, most, most - 1} {
		l = append(l, chart.Line{Account: chart.Cash, Amount: n}, chart.Line{Account: chart.Recovered, Amount: n})
	}
	return l
}

// amounts may be a line's: the bounds, where a byte more is needed, and some ordinary ones.
func amounts() []int64 {
	l := []int64{1, 2, 100, 127, 128, 255, 256, 300, 1 << 31, 1 << 32, 0x0001020304050607, great - 1, great}
	for _, n := range slices.Clone(l) {
		l = append(l, -n)
	}
	return l
}

// lines are by accounts and amounts in turns.
func lines(numbers ...int64) []chart.Line {
	var l []chart.Line
	for i := 0; i < len(numbers); i += 2 {
		l = append(l, chart.Line{Account: int(numbers[i]), Amount: numbers[i+1]})
	}
	return l
}

// pairs are so many lines, of an amount and its negative in turns, that are 0 all together if their number is even.
func pairs(n int, amount int64) []chart.Line {
	var l []chart.Line
	for i := range n {
		l = append(l, chart.Line{Account: 1 + i%7, Amount: amount})
		amount = -amount
	}
	return l
}

// someLines may be: none, or from 2 to 64, the last one sets the others off.
func someLines(r *rand.Rand) []chart.Line {
	if r.Intn(8) == 0 {
		return nil
	}
	var l []chart.Line
	sum := int64(0)
	for range 1 + r.Intn(room-1) {
		amount := 1 + r.Int63n(1<<(1+r.Intn(44)))
		if r.Intn(2) == 0 {
			amount = -amount
		}
		l = append(l, chart.Line{Account: 1 + r.Intn(7), Amount: amount})
		sum += amount
	}
	if sum == 0 {
		return l
	}
	return append(l[:min(len(l), room-1)], chart.Line{Account: 1 + r.Intn(7), Amount: -sum})
}

// someBatch may be.
func someBatch(r *rand.Rand) Batch {
	return Batch{Seq: r.Intn(1 << (1 + r.Intn(31))), Event: r.Intn(1 << (1 + r.Intn(31))), Lines: someLines(r)}
}

// someBatches are of each kind: without lines, of two, of 64, at the bounds, anyhow.
func someBatches() []Batch {
	l := []Batch{
		{},
		{Seq: 1, Event: 1},
		{Seq: highest, Event: highest},
		{Seq: 258, Event: 7, Lines: lines(2, 300, 1, -300)},
		{Seq: highest, Event: 256, Lines: lines(2, great, 1, -great)},
		{Seq: 3, Event: 9, Lines: lines(1, 500, 2, -433, 4, -67)},
		{Seq: 4096, Event: 1 << 30, Lines: pairs(room, great)},
		{Event: highest, Lines: pairs(room, -1)},
	}
	r := rand.New(rand.NewSource(1))
	for range 8 {
		l = append(l, someBatch(r))
	}
	return l
}

func equal(a, b Batch) bool {
	return a.Seq == b.Seq && a.Event == b.Event && slices.Equal(a.Lines, b.Lines)
}

// slowSum is the check sum word by word: a long division of bits, the highest place first.
func slowSum(b []byte) uint32 {
	var l []byte
	for _, x := range b {
		for i := range 8 {
			l = append(l, x>>i&1)
		}
	}
	l = append(l, make([]byte, 32)...)
	for i := range 32 {
		l[i] ^= 1
	}
	for at := range len(l) - 32 {
		if l[at] == 0 {
			continue
		}
		l[at] = 0
		for i := range 32 {
			l[at+1+i] ^= byte(uint32(0x04C11DB7) >> (31 - i) & 1)
		}
	}
	n := uint32(0)
	for i, bit := range l[len(l)-32:] {
		n |= uint32(bit^1) << i
	}
	return n
}

// slowCheck is Check word by word, the lines' sum in numbers of any size.
func slowCheck(b Batch) api.Errno {
	if b.Seq < 0 || b.Seq > 2147483647 || b.Event < 0 || b.Event > 2147483647 {
		return api.ErrArg
	}
	if len(b.Lines) > 64 {
		return api.ErrFull
	}
	all := new(big.Int)
	for _, x := range b.Lines {
		if x.Account < 1 || x.Account > 7 {
			return api.ErrArg
		}
		if x.Amount == 0 || x.Amount < -1125899906842624 || x.Amount > 1125899906842624 {
			return api.ErrArg
		}
		all.Add(all, big.NewInt(x.Amount))
	}
	if all.Sign() != 0 {
		return api.ErrArg
	}
	return api.OK
}

// slowBody are the bytes of a batch's numbers as they are, whether it may be or not, but for the check sum.
func slowBody(b Batch) []byte {
	out := []byte{76, 66}
	out = binary.LittleEndian.AppendUint32(out, uint32(b.Seq))
	out = binary.LittleEndian.AppendUint32(out, uint32(b.Event))
	out = append(out, byte(len(b.Lines)))
	for _, x := range b.Lines {
		out = append(out, byte(x.Account))
		out = binary.LittleEndian.AppendUint64(out, uint64(x.Amount))
	}
	return out
}

// summed are bytes with their check sum behind them, in new memory.
func summed(b []byte) []byte {
	return binary.LittleEndian.AppendUint32(slices.Clone(b), slowSum(b))
}

// slowPut is Put word by word.
func slowPut(b Batch) ([]byte, api.Errno) {
	if e := slowCheck(b); e != api.OK {
		return nil, e
	}
	return summed(slowBody(b)), api.OK
}

// slowGet is Get word by word.
func slowGet(b []byte) (Batch, api.Errno) {
	switch {
	case len(b) < 15:
		return Batch{}, api.ErrShort
	case b[0] != 76 || b[1] != 66:
		return Batch{}, api.ErrForm
	case len(b) < 15+9*int(b[10]):
		return Batch{}, api.ErrShort
	case len(b) > 15+9*int(b[10]):
		return Batch{}, api.ErrForm
	case binary.LittleEndian.Uint32(b[len(b)-4:]) != slowSum(b[:len(b)-4]):
		return Batch{}, api.ErrSum
	}
	x := Batch{Seq: int(binary.LittleEndian.Uint32(b[2:])), Event: int(binary.LittleEndian.Uint32(b[6:]))}
	for i := range int(b[10]) {
		line := b[11+9*i:]
		x.Lines = append(x.Lines, chart.Line{Account: int(line[0]), Amount: int64(binary.LittleEndian.Uint64(line[1:]))})
	}
	if slowCheck(x) != api.OK {
		return Batch{}, api.ErrForm
	}
	return x, api.OK
}

// told are bytes, but no more than the first few of them.
func told(b []byte) []byte {
	return b[:min(len(b), 40)]
}

// checkPut holds Check and Put against what they should answer, and against slowCheck and slowPut; it answers the bytes.
func checkPut(t *testing.T, b Batch, want api.Errno) []byte {
	t.Helper()
	bytes, slow := slowPut(b)
	if slow != want {
		t.Fatalf("%d, %d, %d lines: slowly %d; wanted %d", b.Seq, b.Event, len(b.Lines), slow, want)
	}
	if e := Check(b); e != want {
		t.Errorf("%d, %d, %d lines: %d; wanted %d", b.Seq, b.Event, len(b.Lines), e, want)
	}
	got, e := Put(b)
	if e != want || !slices.Equal(got, bytes) {
		t.Fatalf("%d, %d, %d lines: %v, %d; wanted %v, %d", b.Seq, b.Event, len(b.Lines), told(got), e, told(bytes), want)
	}
	return got
}

// checkGet holds Get against the error that it should answer, and against slowGet.
func checkGet(t *testing.T, b []byte, want api.Errno) Batch {
	t.Helper()
	slow, slowE := slowGet(b)
	if slowE != want {
		t.Fatalf("%d bytes %v: slowly %d; wanted %d", len(b), told(b), slowE, want)
	}
	got, e := Get(b)
	if e != want || !equal(got, slow) {
		t.Fatalf("%d bytes %v: %v, %d; wanted %v, %d", len(b), told(b), got, e, slow, want)
	}
	return got
}
