package unify_test

import (
	"fmt"
	"math/rand"
	"slices"
	"testing"

	"mullion/api"
	"mullion/unify"
)

// P8.2.

func inferOf(params, want, have []api.Type) answer {
	args, at, e := unify.Infer(params, want, have)
	return answer{args: args, at: at, e: e}
}

func TestInfer(t *testing.T) {
	b, i, x := plain(api.TBool), plain(api.TInt8), plain(api.TUint64)
	T, U := param("T", api.CAny), param("U", api.CInteger)
	V, W := param("V", api.CComparable), param("W", api.CInteger)
	rows := []struct {
		params, want, have []api.Type
		out                answer
	}{
		// The chapter's.
		{list(T, U), list(T), list(b), answer{at: 1, e: api.ErrInfer}},
		{list(T, U), list(sliceOf(T), funcOf(list(U), T)), list(sliceOf(b), funcOf(list(i), b)), answer{args: list(b, i)}},
		{list(U, T), list(sliceOf(T), funcOf(list(U), T)), list(sliceOf(b), funcOf(list(i), b)), answer{args: list(i, b)}},
		{nil, nil, nil, answer{}},
		{nil, list(b, sliceOf(T)), list(b, sliceOf(T)), answer{}},
		// The constraint is that of params, not that with which the name stands in what is wanted.
		{list(T), list(param("T", api.CInteger)), list(b), answer{args: list(b)}},
		{list(param("T", api.CInteger)), list(T), list(b), answer{at: 1, e: api.ErrType}},
		// The first pair that does not match.
		{list(T), list(b, T, T, T), list(b, i, i, x), answer{at: 3, e: api.ErrType}},
		{list(T), list(T, sliceOf(T), T), list(b, sliceOf(i), x), answer{at: 1, e: api.ErrType}},
		{list(T), list(sliceOf(T)), list(chanOf(b)), answer{at: 0, e: api.ErrType}},
		{list(T), list(T, U), list(b, i), answer{at: 1, e: api.ErrType}},
		// The first parameter of which nothing is known.
		{list(T, U, V, W), list(U, T), list(i, b), answer{at: 2, e: api.ErrInfer}},
		{list(T), nil, nil, answer{at: 0, e: api.ErrInfer}},
		{list(T, V), list(V), list(b), answer{at: 0, e: api.ErrInfer}},
		// The first parameter whose argument does not fit, on from the pairs.
		{list(U), list(U), list(b), answer{at: 1, e: api.ErrType}},
		{list(T, V, U, W), list(T, V, U, W), list(b, b, i, b), answer{at: 7, e: api.ErrType}},
		{list(T, V, U, W), list(T, V, U, W), list(b, sliceOf(b), b, b), answer{at: 5, e: api.ErrType}},
		{list(T, U), list(funcOf(list(T), U)), list(funcOf(list(i), funcOf(nil))), answer{at: 2, e: api.ErrType}},
		{list(U), list(b, b, U, b, U), list(b, b, b, b, b), answer{at: 5, e: api.ErrType}},
		// A pair is at fault ahead of parameters, and that nothing is known ahead of what does not fit.
		{list(U, T), list(U, b), list(b, i), answer{at: 1, e: api.ErrType}},
		{list(U, T), list(U), list(b), answer{at: 1, e: api.ErrInfer}},
		{list(U, W, T), list(W, U), list(b, b), answer{at: 2, e: api.ErrInfer}},
		{list(T, U), list(i), list(b), answer{at: 0, e: api.ErrType}},
		// TParams that are had fit by what they promise themselves.
		{list(U), list(U), list(W), answer{args: list(W)}},
		{list(U), list(U), list(V), answer{at: 1, e: api.ErrType}},
		{list(V), list(V), list(W), answer{args: list(W)}},
		{list(V), list(V), list(T), answer{at: 1, e: api.ErrType}},
		{list(T, U), list(T, U), list(U, param("T", api.CInteger)), answer{args: list(U, param("T", api.CInteger))}},
	}
	for n, r := range rows {
		wantAnswer(t, fmt.Sprint("row ", n), inferOf(r.params, r.want, r.have), r.out)
		wantAnswer(t, fmt.Sprint("the model of row ", n), modelInfer(r.params, r.want, r.have), r.out)
	}
}

// TestInferConstraints: each constraint, of types of all sorts.
func TestInferConstraints(t *testing.T) {
	rows := []struct {
		t   api.Type
		fit int // the greatest constraint that it meets
	}{
		{plain(api.TBool), 2}, {chanOf(sliceOf(plain(1))), 2}, {structOf("P", "ab", plain(1), plain(2)), 2}, {structOf("E", ""), 2}, {param("A", api.CComparable), 2},
		{sliceOf(plain(api.TInt8)), 1}, {funcOf(nil), 1}, {structOf("P", "ab", plain(1), sliceOf(plain(2))), 1}, {param("A", api.CAny), 1}, {structOf("P", "a", param("A", 1)), 1},
		{param("A", api.CInteger), 3}, {plain(api.TInt8), 3}, {plain(api.TUint8), 3}, {plain(api.TInt32), 3}, {plain(api.TUint32), 3}, {plain(api.TInt64), 3}, {plain(api.TUint64), 3},
	}
	b := plain(api.TBool)
	for n, r := range rows {
		for con := api.CAny; con <= api.CInteger; con++ {
			params := list(param("S", api.CAny), param("T", con))
			want := answer{args: list(b, r.t)}
			if con > r.fit {
				want = answer{at: 3, e: api.ErrType}
			}
			got := inferOf(params, list(param("S", 1), sliceOf(param("T", 1))), list(b, sliceOf(r.t)))
			wantAnswer(t, fmt.Sprint("row ", n, " with ", con), got, want)
		}
	}
}

func TestInferDiffering(t *testing.T) {
	T, b := param("T", api.CAny), plain(api.TBool)
	for n, p := range differing() {
		what := fmt.Sprint("differing ", n)
		wantAnswer(t, what, inferOf(list(T), list(p[0]), list(p[1])), answer{e: api.ErrType})
		wantAnswer(t, what, inferOf(list(T), list(b, b, p[0], p[0]), list(b, b, p[1], p[1])), answer{at: 2, e: api.ErrType})
	}
}

func TestInferWrongArgs(t *testing.T) {
	none := answer{e: api.ErrArg}
	T, b, i := param("T", api.CAny), plain(api.TBool), plain(api.TInt8)
	rows := [][3][]api.Type{
		{list(T, T), nil, nil}, {list(T, param("U", 1), param("T", 3)), list(T), list(b)}, {nil, list(b), nil}, {nil, nil, list(b)},
		{list(T), list(T, T), list(b)}, {list(T), list(T), list(b, b)},
		// Ahead of ErrType and ErrInfer.
		{list(T, T), list(b), list(i)}, {list(T), list(b, b), list(i)}, {list(T), nil, list(b)}, {list(param("T", 3), param("T", 3)), list(T), list(b)},
	}
	for n, r := range rows {
		wantAnswer(t, fmt.Sprint("row ", n), inferOf(r[0], r[1], r[2]), none)
	}
}

// TestInferAllSmall holds each small type against each other, for some lists of parameters.
func TestInferAllSmall(t *testing.T) {
	all := smallOnes()
	for _, params := range [][]api.Type{list(param("T", 3)), list(param("U", 1), param("T", 2)), list(param("T", 1), param("U", 3))} {
		for _, w := range all {
			for _, h := range all {
				got, want := inferOf(params, list(w), list(h)), modelInfer(params, list(w), list(h))
				if told(got) != told(want) {
					t.Fatalf("%+v, %+v, %+v:\n%s\nnot\n%s", params, w, h, told(got), told(want))
				}
			}
		}
	}
}

func TestInferByChance(t *testing.T) {
	r := rand.New(rand.NewSource(9))
	met := map[api.Errno]int{}
	for range 20000 {
		names := []string{"U", "T", "_", "Ärm", "V"}[:r.Intn(6)]
		var params []api.Type
		for _, n := range names {
			params = append(params, param(n, 1+r.Intn(3)))
		}
		want, have := somePairs(r, names)
		// Most parameters stand somewhere, so that there is what to infer.
		for _, p := range params {
			if r.Intn(4) > 0 {
				want, have = append(want, p), append(have, someSound(r, r.Intn(2)))
			}
		}
		got := inferOf(params, want, have)
		met[got.e]++
		wantAnswer(t, fmt.Sprintf("%+v, %+v, %+v", params, want, have), got, modelInfer(params, want, have))
		if got.e == api.OK {
			got.known = slices.Repeat([]bool{true}, len(names))
			wantHad(t, names, got, want, have)
		}
	}
	if met[api.OK] < 1000 || met[api.ErrType] < 1000 || met[api.ErrInfer] < 1000 {
		t.Errorf("too few of a sort: %v", met)
	}
}
