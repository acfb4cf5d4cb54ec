// Package money is layer 1: see shared/doc/01-money.md.
package money

import (
	"math/bits"

	"lombard/api"
)

// signed is any width of amount: nothing below leans on 64 bits, so a narrow width can be tested at all its pairs.
type signed interface {
	~int8 | ~int16 | ~int32 | ~int64
}

// Add is the sum of two amounts.
func Add(a, b int64) (int64, api.Errno) {
	n, turns := plus(a, b)
	return exact(n, turns)
}

// Sub is their difference.
func Sub(a, b int64) (int64, api.Errno) {
	n, turns := minus(a, b)
	return exact(n, turns)
}

// Mul is their product.
func Mul(a, b int64) (int64, api.Errno) {
	n, turns := times(a, b)
	return exact(n, turns)
}

// Neg is 0 less an amount.
func Neg(a int64) (int64, api.Errno) {
	n, turns := minus(0, a)
	return exact(n, turns)
}

// Sum is that of amounts.
func Sum(l []int64) (int64, api.Errno) {
	n, turns := gather(l)
	return exact(n, turns)
}

// Split parts an amount by weights.
func Split(n int64, weights []int64) ([]int64, api.Errno) {
	all, ok := weigh(weights)
	if !ok || !May(n) {
		return nil, api.ErrArg
	}
	parts := make([]int64, len(weights))
	left := n
	for i, w := range weights {
		parts[i] = share(n, w, all)
		left -= parts[i]
	}
	giveOut(left, weights, parts)
	return parts, api.OK
}

// May says whether an amount may be handed in.
func May(n int64) bool {
	return -api.MaxMoney <= n && n <= api.MaxMoney
}

// exact refuses what went round.
func exact[T signed](n T, turns int) (T, api.Errno) {
	if turns != 0 {
		return 0, api.ErrOver
	}
	return n, api.OK
}

// plus is the sum as the machine has it, and how often it went round: upwards 1, downwards -1.
func plus[T signed](a, b T) (T, int) {
	n := a + b
	if b > 0 && n < a {
		return n, 1
	}
	if b < 0 && n > a {
		return n, -1
	}
	return n, 0
}

// minus is to a difference what plus is to a sum.
func minus[T signed](a, b T) (T, int) {
	n := a - b
	if b < 0 && n < a {
		return n, 1
	}
	if b > 0 && n > a {
		return n, -1
	}
	return n, 0
}

// times is the product as the machine has it, and 1 if it went round, however often.
func times[T signed](a, b T) (T, int) {
	// The least number divided by -1 goes round itself, so the division below would find nothing.
	if b == -1 {
		return minus(0, a)
	}
	n := a * b
	if b != 0 && n/b != a {
		return n, 1
	}
	return n, 0
}

// gather sums up. Turns in both directions cancel out, so only what the whole sum is counts, not the sums on the way.
func gather[T signed](l []T) (T, int) {
	var sum T
	turns := 0
	for _, n := range l {
		next, turn := plus(sum, n)
		sum = next
		turns += turn
	}
	return sum, turns
}

// weigh is all weights together, and whether one may split by them. Their number is held down first, so that no sum goes round.
func weigh(weights []int64) (int64, bool) {
	if len(weights) < 1 || len(weights) > api.MaxPeriods {
		return 0, false
	}
	var all int64
	for _, w := range weights {
		if w < 0 || w > api.MaxMoney {
			return 0, false
		}
		all += w
	}
	return all, all != 0
}

// share is n times w, divided by all, towards 0. The product may be wider than 64 bits; the quotient isn't, since w is at most all.
func share(n, w, all int64) int64 {
	size := n
	if n < 0 {
		size = -n
	}
	hi, lo := bits.Mul64(uint64(size), uint64(w))
	part, _ := bits.Div64(hi, lo, uint64(all))
	if n < 0 {
		return -int64(part)
	}
	return int64(part)
}

// giveOut hands out what is left, one by one. Each share lost less than 1, and that of a weight of 0 nothing, so less is left than there are weights that aren't 0: one round does.
func giveOut(left int64, weights, parts []int64) {
	one := int64(1)
	if left < 0 {
		one = -1
	}
	for i, w := range weights {
		if left == 0 {
			return
		}
		if w != 0 {
			parts[i] += one
			left -= one
		}
	}
}
