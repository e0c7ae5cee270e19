package konst_test

import (
	"math/big"
	"math/rand"
	"testing"

	"mullion/api"
	"mullion/konst"
)

// TestEdges: each operator at each two of the edges.
func TestEdges(t *testing.T) {
	for _, a := range edges() {
		for _, op := range []string{"-", "^"} {
			unary(t, op, a)
		}
		for _, b := range edges() {
			for _, op := range foldOps() {
				fold(t, op, a, b)
			}
			for _, op := range compareOps() {
				compare(t, op, a, b)
			}
		}
	}
}

// TestTheLastThatIsSound: from what makes a sum, a difference or a product just a sound constant, one further is none.
func TestTheLastThatIsSound(t *testing.T) {
	for _, a := range edges() {
		for _, end := range []*big.Int{least(), most()} {
			for d := int64(-2); d <= 2; d++ {
				near(t, a, new(big.Int).Add(end, big.NewInt(d)))
			}
		}
	}
}

// near holds what comes of a, with such numbers that it is about c, against the model.
func near(t *testing.T, a constant, c *big.Int) {
	v := valueOf(a)
	if b := new(big.Int).Sub(c, v); isConstant(b) {
		fold(t, "+", a, of(b))
	}
	if b := new(big.Int).Sub(v, c); isConstant(b) {
		fold(t, "-", a, of(b))
	}
	if v.Sign() != 0 {
		b := new(big.Int).Quo(c, v)
		for d := int64(-1); d <= 1; d++ {
			if x := new(big.Int).Add(b, big.NewInt(d)); isConstant(x) {
				fold(t, "*", a, of(x))
			}
		}
	}
}

// TestEachShift: each edge by each count about the sizes that matter.
func TestEachShift(t *testing.T) {
	for _, a := range edges() {
		for n := int64(-2); n <= 130; n++ {
			for _, op := range []string{"<<", ">>"} {
				fold(t, op, a, of(big.NewInt(n)))
			}
		}
	}
}

// TestSmallNumbers holds small constants against what the language makes of its own.
func TestSmallNumbers(t *testing.T) {
	for i := int64(-20); i <= 20; i++ {
		for j := int64(-20); j <= 20; j++ {
			for op, want := range languageDoes(i, j) {
				a, b := of(big.NewInt(i)), of(big.NewInt(j))
				if neg, n, e := konst.Fold(op, a.neg, a.n, b.neg, b.n); (constant{neg, n}) != of(big.NewInt(want)) || e != api.OK {
					t.Errorf("%d %s %d = %v %d, %d, not %d", i, op, j, neg, n, e, want)
				}
			}
		}
	}
}

// languageDoes tells what comes of two numbers, where something does.
func languageDoes(i, j int64) map[string]int64 {
	out := map[string]int64{"+": i + j, "-": i - j, "*": i * j}
	if j != 0 {
		out["/"], out["%"] = i/j, i%j
	}
	if j >= 0 {
		out["<<"], out[">>"] = i<<j, i>>j
	}
	if i >= 0 && j >= 0 {
		out["&"], out["|"], out["^"], out["&^"] = i&j, i|j, i^j, i&^j
	}
	return out
}

func TestChance(t *testing.T) {
	r := rand.New(rand.NewSource(7))
	for i := 0; i < 20000; i++ {
		a, b := chance(r), chance(r)
		for _, op := range foldOps() {
			fold(t, op, a, b)
			fold(t, op, a, constant{n: uint64(r.Intn(70))})
		}
		for _, op := range compareOps() {
			compare(t, op, a, b)
			compare(t, op, a, a)
		}
		unary(t, "-", a)
		unary(t, "^", a)
		for _, k := range kindRows() {
			fits(t, k, a)
		}
		text(t, a)
	}
}
