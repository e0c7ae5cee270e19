package code_test

import (
	"math/rand"
	"slices"
	"testing"

	"mullion/api"
	"mullion/code"
)

// P11.1.

// TestShapes: a list of shapes, and whether they are sound.
func TestShapes(t *testing.T) {
	b, i := shape(1, 0), shape(2, 0)
	for n, r := range []struct {
		want bool
		list []api.Shape
	}{
		{true, nil},
		{true, []api.Shape{b}}, {true, []api.Shape{shape(7, 0), shape(6, 0), shape(5, 0), shape(4, 0), shape(3, 0), i, b}},
		{false, []api.Shape{shape(0, 0)}}, {false, []api.Shape{shape(-1, 0)}}, {false, []api.Shape{shape(14, 0)}}, {false, []api.Shape{shape(1<<63-1, 0)}}, {false, []api.Shape{shape(-1<<63, 0)}},
		// A type parameter is no shape, in none of its forms.
		{false, []api.Shape{shape(12, 0)}}, {false, []api.Shape{b, shape(12, 0, 0)}}, {false, []api.Shape{b, shape(12, 1)}},
		// What is neither asked for nor there.
		{false, []api.Shape{b, shape(2, 0, 0)}}, {false, []api.Shape{b, shape(7, 1)}}, {false, []api.Shape{b, shape(8, 1)}}, {false, []api.Shape{b, shape(9, 1, 0)}},
		{false, []api.Shape{b, shape(10, 1, 0)}}, {false, []api.Shape{b, shape(13, 1, 0)}},
		// Lists.
		{true, []api.Shape{b, shape(8, 0)}}, {true, []api.Shape{b, shape(8, 0, 0, 0, 0)}}, {true, []api.Shape{shape(8, 0)}},
		{true, []api.Shape{b, shape(9, 0, 0)}}, {false, []api.Shape{b, shape(9, 0)}}, {false, []api.Shape{b, shape(9, 0, 0, 0)}},
		{true, []api.Shape{b, shape(10, 0, 0)}}, {false, []api.Shape{b, shape(10, 0)}}, {false, []api.Shape{b, shape(10, 0, 0, 0)}},
		{true, []api.Shape{b, shape(13, 0, 0)}}, {false, []api.Shape{b, shape(13, 0)}}, {false, []api.Shape{b, shape(13, 0, 0, 0)}},
		{true, []api.Shape{shape(11, 0)}}, {true, []api.Shape{b, shape(11, 1)}}, {true, []api.Shape{b, shape(11, 1, 0, 0)}}, {true, []api.Shape{b, shape(11, 0, 0)}},
		// Places that are not lesser than their own.
		{false, []api.Shape{b, shape(9, 0, 1)}}, {false, []api.Shape{b, shape(9, 0, 2), i}}, {false, []api.Shape{b, shape(9, 0, -1)}}, {false, []api.Shape{shape(9, 0, 0)}},
		{false, []api.Shape{b, shape(10, 0, 1)}}, {false, []api.Shape{b, shape(13, 0, 1)}}, {false, []api.Shape{b, shape(13, 0, 1<<63-1)}},
		{false, []api.Shape{b, shape(8, 0, 0, 1)}}, {false, []api.Shape{b, shape(8, 0, -1, 0)}}, {false, []api.Shape{b, shape(8, 0, -1<<63)}},
		{false, []api.Shape{b, shape(11, 0, 1)}}, {false, []api.Shape{b, shape(11, 0, 0, -1)}}, {false, []api.Shape{shape(11, 1)}}, {false, []api.Shape{b, shape(11, 2), i}},
		{false, []api.Shape{b, shape(11, -1)}}, {false, []api.Shape{b, shape(11, -1<<63)}}, {false, []api.Shape{b, shape(11, 1<<63-1)}},
		{true, []api.Shape{b, i, shape(11, 2, 1)}}, {true, []api.Shape{b, shape(13, 0, 0), shape(13, 0, 1), shape(9, 0, 2)}},
		// The same two times.
		{false, []api.Shape{b, b}}, {false, []api.Shape{shape(7, 0), b, i, shape(7, 0)}}, {false, []api.Shape{b, shape(9, 0, 0), shape(9, 0, 0)}}, {true, []api.Shape{b, shape(9, 0, 0), shape(10, 0, 0), shape(13, 0, 0)}},
		{false, []api.Shape{b, shape(10, 0, 0), i, shape(10, 0, 0)}}, {false, []api.Shape{b, shape(13, 0, 0), shape(13, 0, 0)}}, {true, []api.Shape{b, i, shape(9, 0, 0), shape(9, 0, 1)}},
		{true, []api.Shape{b, shape(8, 0, 0), shape(8, 0, 0), shape(8, 0, 0)}}, {true, []api.Shape{shape(8, 0), shape(8, 0)}}, {true, []api.Shape{shape(8, 0), shape(8, 0), shape(9, 0, 0), shape(9, 0, 1)}},
		{false, []api.Shape{shape(11, 0), shape(11, 0)}}, {false, []api.Shape{b, i, shape(11, 1, 0, 1), shape(11, 1, 0, 1)}}, {true, []api.Shape{b, i, shape(11, 1, 0, 1), shape(11, 1, 1, 0)}},
		{true, []api.Shape{b, shape(11, 0), shape(11, 1), shape(11, 0, 0), shape(11, 1, 0), shape(11, 0, 0, 0), shape(11, 1, 0, 0), shape(11, 0, 1), shape(11, 2)}},
		{true, []api.Shape{b, shape(11, 0, noughts(15)...), shape(11, 0, noughts(16)...)}}, {false, []api.Shape{b, shape(11, 0, noughts(16)...), shape(11, 0, noughts(16)...)}},
		{true, []api.Shape{b, i, shape(11, 0, append(noughts(15), 1)...), shape(11, 0, noughts(16)...)}},
		// The first or the last at fault.
		{false, []api.Shape{shape(8, 0, 0), b}}, {false, []api.Shape{b, i, shape(8, 0, 0, 1), shape(8, 0, 0, 1, 2), shape(8, 0, 4)}},
	} {
		wantCheck(t, n, r.want, shapes(r.list...))
	}
}

// TestLongKeys: what functions take, all of it, tells them apart.
func TestLongKeys(t *testing.T) {
	for long := 1; long <= 16; long++ {
		for at := range long {
			list := noughts(long)
			list[at] = 1
			wantCheck(t, at, true, shapes(shape(1, 0), shape(2, 0), shape(11, 0, list...), shape(11, 0, noughts(long)...)))
			wantCheck(t, at, false, shapes(shape(1, 0), shape(2, 0), shape(11, 0, list...), shape(11, 0, noughts(long)...), shape(11, 0, list...)))
		}
	}
}

// TestFunctions: functions of a module with three shapes.
func TestFunctions(t *testing.T) {
	for n, r := range []struct {
		want bool
		list []api.Func
	}{
		{false, nil}, {true, []api.Func{{}}}, {true, []api.Func{{}, {}, {}}},
		{true, []api.Func{{Locals: []int{0, 1, 2, 2}, Caps: []int{2, 2, 0}}}},
		{false, []api.Func{{Locals: []int{3}}}}, {false, []api.Func{{Locals: []int{0, -1}}}}, {false, []api.Func{{Locals: []int{1 << 62}}}}, {false, []api.Func{{Locals: []int{-1 << 63}}}},
		{false, []api.Func{{Caps: []int{3}}}}, {false, []api.Func{{Caps: []int{0, -1, 0}}}}, {false, []api.Func{{Caps: []int{1<<63 - 1}}}},
		{true, []api.Func{{Locals: []int{0, 0}, Params: 2}}}, {true, []api.Func{{Locals: []int{0, 0}, Params: 1}}}, {false, []api.Func{{Locals: []int{0, 0}, Params: 3}}}, {false, []api.Func{{Params: 1}}},
		{false, []api.Func{{Caps: []int{0, 0}, Params: 1}}}, {false, []api.Func{{Params: -1}}}, {false, []api.Func{{Locals: []int{0}, Params: -1}}}, {false, []api.Func{{Params: 1<<63 - 1}}}, {false, []api.Func{{Params: -1 << 63}}},
		{true, []api.Func{{Res: 1}}}, {true, []api.Func{{Res: 3}}}, {false, []api.Func{{Res: 4}}}, {false, []api.Func{{Res: -1}}}, {false, []api.Func{{Res: 1<<63 - 1}}}, {false, []api.Func{{Res: -1 << 63}}},
		{false, []api.Func{{}, {}, {Res: 4}}}, {false, []api.Func{{Params: 1}, {}}}, {false, []api.Func{{}, {Caps: []int{3}}, {}}},
		// Nothing is asked of the instructions.
		{true, []api.Func{{Code: []api.Instr{{}, {Op: -7, A: -9, B: 1 << 40, N: 5, Cases: make([]api.Case, 99)}, {Cases: []api.Case{{Chan: -5, Val: -5, To: -5}}}}}}},
	} {
		wantCheck(t, n, r.want, functions(r.list...))
	}
	wantCheck(t, -1, false, api.Module{})
	wantCheck(t, -2, true, api.Module{Funcs: make([]api.Func, 1)})
	wantCheck(t, -3, false, api.Module{Funcs: []api.Func{{Locals: []int{0}}}})
	wantCheck(t, -4, false, api.Module{Funcs: []api.Func{{Res: 1}}})
	wantCheck(t, -5, false, api.Module{Types: []api.Shape{shape(1, 0), shape(1, 0)}})
}

// TestBoxesAnywhere: a TBox may stand wherever a shape may.
func TestBoxesAnywhere(t *testing.T) {
	m := shapes(shape(6, 0), shape(13, 0, 0), shape(8, 0, 1, 0, 1), shape(9, 0, 1), shape(11, 2, 1), shape(13, 0, 4))
	m.Funcs[0] = api.Func{Params: 1, Locals: []int{1, 5}, Caps: []int{1, 2}, Res: 2}
	wantCheck(t, 0, true, m)
	for at, want := range []int{1, 1, 3, 1, 1, 1} {
		wantCells(t, m, at, want, api.OK)
	}
}

func TestCells(t *testing.T) {
	m := shapes(
		shape(8, 0), shape(6, 0), shape(8, 0, 1, 1), shape(9, 0, 2), shape(8, 0, 2, 0, 3, 1), shape(10, 0, 4), shape(11, 5, 4, 2), shape(13, 0, 4),
		shape(8, 0, 4, 4, 5, 6, 7), shape(8, 0, 0, 0), shape(1, 0), shape(8, 0, 10),
	)
	for at, want := range []int{0, 1, 2, 1, 4, 1, 1, 1, 11, 0, 1, 1} {
		wantCells(t, m, at, want, api.OK)
	}
	for _, at := range []int{-1 << 63, -1, 12, 13, 1<<63 - 1} {
		wantCells(t, m, at, 0, api.ErrRange)
	}
	wantCells(t, shapes(), 0, 0, api.ErrRange)
	// ErrForm is ahead of ErrRange, whatever is wrong.
	for _, at := range []int{-1, 0, 1, 5} {
		wantCells(t, api.Module{}, at, 0, api.ErrForm)
		wantCells(t, api.Module{Types: []api.Shape{shape(1, 0)}}, at, 0, api.ErrForm)
		wantCells(t, shapes(shape(1, 0), shape(1, 0)), at, 0, api.ErrForm)
		wantCells(t, functions(api.Func{Res: 9}), at, 0, api.ErrForm)
		wantCells(t, functions(api.Func{}, api.Func{Params: 1}), at, 0, api.ErrForm)
	}
}

// TestSmallShapes holds each two small shapes, and some threes, against the model.
func TestSmallShapes(t *testing.T) {
	var all []api.Shape
	for kind := -1; kind <= 14; kind++ {
		for _, list := range [][]int{nil, {0}, {1}, {-1}, {0, 0}, {0, 1}} {
			for res := -1; res <= 2; res++ {
				all = append(all, shape(kind, res, list...))
			}
		}
	}
	for n, a := range all {
		wantModelled(t, n, shapes(a))
		for _, b := range all {
			wantModelled(t, n, shapes(a, b))
		}
	}
	r := rand.New(rand.NewSource(11))
	sound := slices.DeleteFunc(slices.Clone(all), func(s api.Shape) bool { return !modelIsSound(shapes(shape(8, 0), s)) })
	for n := range 20000 {
		one := func() api.Shape { return sound[r.Intn(len(sound))] }
		wantModelled(t, n, shapes(shape(8, 0), one(), one(), all[r.Intn(len(all))]))
	}
}

// TestSmallFunctions holds all small functions against the model.
func TestSmallFunctions(t *testing.T) {
	lists := [][]int{nil, {0}, {2}, {3}, {-1}, {0, 1}, {0, 3}, {-1, 1}, {2, 2, 2}}
	for n, locals := range lists {
		for _, caps := range lists {
			for params := -1; params <= 4; params++ {
				for res := -1; res <= 4; res++ {
					f := api.Func{Params: params, Locals: locals, Caps: caps, Res: res}
					wantModelled(t, n, functions(f))
					wantModelled(t, n, functions(api.Func{}, f))
					wantModelled(t, n, api.Module{Funcs: []api.Func{f}})
				}
			}
		}
	}
}

// TestSoundOnes: modules by chance that are sound, and the same with one number changed.
func TestSoundOnes(t *testing.T) {
	for seed := range 1500 {
		r := rand.New(rand.NewSource(int64(seed)))
		m := someSound(r)
		wantCheck(t, seed, true, m)
		for at := range m.Types {
			wantCells(t, m, at, modelCells(m, at), api.OK)
		}
		wantCells(t, m, len(m.Types), 0, api.ErrRange)
		_, values := spots(&m)
		for _, v := range values {
			if !v.CanInt() {
				continue
			}
			was := v.Int()
			v.SetInt(was + []int64{-2, -1, 1, 2, 5}[r.Intn(5)])
			wantModelled(t, seed, m)
			v.SetInt(was)
		}
	}
}

// wantModelled takes from Check and Cells what the model says.
func wantModelled(t *testing.T, n int, m api.Module) {
	t.Helper()
	isSound := modelIsSound(m)
	wantCheck(t, n, isSound, m)
	for at := range m.Types {
		if isSound {
			wantCells(t, m, at, modelCells(m, at), api.OK)
		} else {
			wantCells(t, m, at, 0, api.ErrForm)
		}
	}
}

func wantCheck(t *testing.T, n int, isSound bool, m api.Module) {
	t.Helper()
	want := api.ErrForm
	if isSound {
		want = api.OK
	}
	if e := code.Check(m); e != want {
		t.Errorf("%d: Check(%+v) = %d, not %d", n, m, e, want)
	}
}

func wantCells(t *testing.T, m api.Module, at, want int, e api.Errno) {
	t.Helper()
	if n, f := code.Cells(m, at); n != want || f != e {
		t.Errorf("Cells(%+v, %d) = %d, %d, not %d, %d", m, at, n, f, want, e)
	}
}
