package batch

import (
	"encoding/binary"
	"hash/crc32"
	"math/rand"
	"slices"
	"strings"
	"testing"
)

// checkSum holds Sum against the chapter word by word, and against the library's, and answers it.
func checkSum(t *testing.T, b []byte) uint32 {
	t.Helper()
	got := Sum(b)
	if slow := slowSum(b); got != slow {
		t.Fatalf("%d bytes %v: %x; wanted %x", len(b), told(b), got, slow)
	}
	if library := crc32.ChecksumIEEE(b); got != library {
		t.Fatalf("%d bytes %v: %x; the library's is %x", len(b), told(b), got, library)
	}
	return got
}

// P18.1: sums that are known.
func TestSumNamed(t *testing.T) {
	for _, x := range []struct {
		text string
		sum  uint32
	}{
		{"123456789", 0xCBF43926},
		{"", 0},
		{"\x00", 0xD202EF8D},
		{"\xff", 0xFF000000},
		{"\x00\x00\x00\x00", 0x2144DF1C},
		{"\xff\xff\xff\xff", 0xFFFFFFFF},
		{"a", 0xE8B7BE43},
		{"abc", 0x352441C2},
		{"LB", 0x85C7324A},
		{strings.Repeat("\x00", 32), 0x190A55AD},
		{strings.Repeat("\xff", 32), 0xFF6CAB0B},
		{"The quick brown fox jumps over the lazy dog", 0x414FA339},
	} {
		if got := checkSum(t, []byte(x.text)); got != x.sum {
			t.Errorf("%q: %x; wanted %x", x.text, got, x.sum)
		}
	}
}

// P18.1: of no bytes, nil, empty, and with room behind them.
func TestSumOfNone(t *testing.T) {
	for _, b := range [][]byte{nil, {}, []byte("LB")[:0], []byte("LB")[2:]} {
		if got := checkSum(t, b); got != 0 {
			t.Errorf("%x", got)
		}
	}
}

// P18.1: of one byte of each value, of two of each, and of as many noughts as may lie ahead: a byte counts in each place.
func TestSumOfEach(t *testing.T) {
	seen := map[uint32]int{}
	for x := range 256 {
		seen[checkSum(t, []byte{byte(x)})]++
		for y := range 256 {
			seen[checkSum(t, []byte{byte(x), byte(y)})]++
		}
		for n := range 20 {
			checkSum(t, append(make([]byte, n), byte(x)))
			checkSum(t, append([]byte{byte(x)}, make([]byte, n)...))
		}
	}
	if len(seen) != 256+65536 {
		t.Error(len(seen))
	}
}

// P18.1: of many bytes, of each number up to 300, and anyhow.
func TestSumOfMany(t *testing.T) {
	r := rand.New(rand.NewSource(2))
	for n := range 300 {
		b := make([]byte, n)
		r.Read(b)
		checkSum(t, b)
		checkSum(t, slices.Repeat([]byte{0xff}, n))
		checkSum(t, slices.Repeat([]byte{0}, n))
	}
	for _, n := range []int{1 << 12, 1<<16 + 1, 200000} {
		b := make([]byte, n)
		r.Read(b)
		checkSum(t, b)
	}
	b := make([]byte, 5000000)
	r.Read(b)
	if got, want := Sum(b), crc32.ChecksumIEEE(b); got != want {
		t.Errorf("%x; wanted %x", got, want)
	}
}

// P18.1: bytes with their sum behind them, the lowest byte first, all have one sum.
func TestSumOfSummed(t *testing.T) {
	r := rand.New(rand.NewSource(3))
	for n := range 200 {
		b := make([]byte, n)
		r.Read(b)
		if got := checkSum(t, binary.LittleEndian.AppendUint32(b, Sum(b))); got != 0x2144DF1C {
			t.Errorf("%x", got)
		}
	}
}

// P18.1: a bit that is turned turns the sum into another one, wherever it stands; so do two bytes that change places.
func TestSumTurned(t *testing.T) {
	r := rand.New(rand.NewSource(4))
	for _, n := range []int{1, 2, 3, 4, 5, 60, 587} {
		b := make([]byte, n)
		r.Read(b)
		was := checkSum(t, b)
		for at := range n * 8 {
			b[at/8] ^= 1 << (at % 8)
			if Sum(b) == was {
				t.Errorf("%d bytes: the bit %d", n, at)
			}
			b[at/8] ^= 1 << (at % 8)
		}
		for at := 1; at < n; at++ {
			x := slices.Clone(b)
			x[at-1], x[at] = x[at], x[at-1]
			if x[at] != x[at-1] && Sum(x) == was {
				t.Errorf("%d bytes: the places %d and %d", n, at-1, at)
			}
		}
	}
}
