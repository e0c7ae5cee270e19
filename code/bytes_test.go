package code_test

import (
	"fmt"
	"math/rand"
	"reflect"
	"slices"
	"testing"

	"mullion/api"
	"mullion/code"
)

// P11.2.

// TestBytes: modules and their bytes, by hand.
func TestBytes(t *testing.T) {
	one := func(i api.Instr) api.Module { return api.Module{Funcs: []api.Func{{Code: []api.Instr{i}}}} }
	for n, r := range []struct {
		m api.Module
		b []byte
	}{
		{api.Module{}, []byte{0, 0}},
		{api.Module{Types: []api.Shape{{}}}, []byte{1, 0, 0, 0, 0}},
		{api.Module{Funcs: []api.Func{{}}}, []byte{0, 1, 0, 0, 0, 0, 0}},
		{shapes(shape(6, 0), shape(9, 0, 0), shape(11, 2, 0, 1)), []byte{3, 6, 0, 0, 9, 1, 0, 0, 11, 2, 0, 1, 2, 1, 0, 0, 0, 0, 0}},
		{full(), []byte{
			3, 100, 2, 8, 9, 7, 101, 0, 10, 102, 1, 172, 2, 0,
			3, 0, 0, 0, 0, 0,
			20, 2, 21, 22, 1, 23, 24, 2,
			25, 27, 28, 28, 0,
			29, 31, 32, 128, 128, 128, 128, 128, 128, 128, 128, 128, 1, 2, 1, 32, 34, 34, 0, 35, 37, 37,
			38, 1, 39, 2, 40, 41, 42, 0,
		}},
		{one(api.Instr{A: -1, B: -1}), []byte{0, 1, 0, 0, 0, 0, 1, 0, 0, 0, 0, 0}},
		{one(api.Instr{}), []byte{0, 1, 0, 0, 0, 0, 1, 0, 1, 1, 0, 0}},
		{one(api.Instr{A: 127, B: 126, N: 127}), []byte{0, 1, 0, 0, 0, 0, 1, 0, 128, 1, 127, 127, 0}},
		{one(api.Instr{Op: top, A: top, B: top - 1, N: 128}), []byte{0, 1, 0, 0, 0, 0, 1, 255, 255, 255, 255, 7, 128, 128, 128, 128, 8, 255, 255, 255, 255, 7, 128, 1, 0}},
		{one(api.Instr{N: 1<<64 - 1}), []byte{0, 1, 0, 0, 0, 0, 1, 0, 1, 1, 255, 255, 255, 255, 255, 255, 255, 255, 255, 1, 0}},
		{one(api.Instr{N: 1<<63 - 1}), []byte{0, 1, 0, 0, 0, 0, 1, 0, 1, 1, 255, 255, 255, 255, 255, 255, 255, 255, 127, 0}},
		{one(api.Instr{Cases: []api.Case{{Send: true, Val: -1, To: 300}}}), []byte{0, 1, 0, 0, 0, 0, 1, 0, 1, 1, 0, 1, 1, 0, 0, 172, 2}},
		{one(api.Instr{Cases: []api.Case{{Chan: 127, Val: 127, To: 128}, {}}}), []byte{0, 1, 0, 0, 0, 0, 1, 0, 1, 1, 0, 2, 0, 127, 128, 1, 128, 1, 0, 0, 1, 0}},
		{api.Module{Funcs: []api.Func{{Params: 16383, Locals: []int{16384, 2097151}, Caps: []int{2097152}, Res: 1 << 28}}},
			[]byte{0, 1, 255, 127, 2, 128, 128, 1, 255, 255, 127, 1, 128, 128, 128, 1, 128, 128, 128, 128, 1, 0}},
	} {
		if b, e := code.Encode(r.m); !slices.Equal(b, r.b) || e != api.OK {
			t.Errorf("%d: Encode(%+v) = %v, %d, not %v", n, r.m, b, e, r.b)
		}
		wantModule(t, r.b, r.m)
	}
}

// TestFaults: bytes of no module, and where the number at fault begins.
func TestFaults(t *testing.T) {
	head := []byte{0, 1, 0, 0, 0, 0, 1} // an instruction follows
	more := func(b ...byte) []byte { return slices.Concat(head, b) }
	for _, r := range []struct {
		b  []byte
		at int
	}{
		{nil, 0}, {[]byte{}, 0}, {[]byte{0}, 1}, {[]byte{0, 0, 7}, 2}, {[]byte{0, 0, 0}, 2}, {[]byte{0, 0, 128}, 2}, {[]byte{0, 0, 0, 0}, 2},
		{[]byte{128, 0}, 0}, {[]byte{128}, 0}, {[]byte{0, 128}, 1}, {[]byte{0, 128, 0}, 1}, {[]byte{0, 129, 128}, 1}, {[]byte{255}, 0}, {[]byte{128, 0, 0}, 0}, {[]byte{129, 0, 0}, 0}, {[]byte{128, 128, 0}, 0},
		// Numbers that are missing.
		{[]byte{1}, 1}, {[]byte{1, 0}, 2}, {[]byte{1, 0, 0}, 3}, {[]byte{1, 0, 0, 0}, 4}, {[]byte{1, 0, 1}, 3}, {[]byte{1, 0, 1, 0}, 4}, {[]byte{1, 0, 2, 0}, 4}, {[]byte{2, 0, 0, 0}, 4},
		{[]byte{0, 1}, 2}, {[]byte{0, 1, 0}, 3}, {[]byte{0, 1, 0, 0, 0, 0}, 6}, {[]byte{0, 2, 0, 0, 0, 0, 0}, 7}, {more(), 7}, {more(0, 0, 0), 10}, {more(0, 0, 0, 0), 11}, {more(0, 0, 0, 0, 1, 0, 0, 0), 15},
		// Numbers that end in a 0 of no need, wherever one may stand.
		{[]byte{1, 129, 0, 0, 0, 0}, 1}, {[]byte{1, 0, 129, 0, 0, 0, 0}, 2}, {[]byte{1, 0, 1, 129, 0, 0, 0}, 3}, {[]byte{1, 0, 0, 129, 0, 0}, 3}, {[]byte{0, 1, 0, 0, 0, 0, 128, 0}, 6},
		{more(128, 0), 7}, {more(0, 129, 0), 8}, {more(0, 1, 128, 128, 0), 9}, {more(0, 0, 0, 129, 0), 10}, {more(0, 0, 0, 255, 255, 255, 255, 255, 255, 255, 255, 255, 0), 10},
		{more(0, 0, 0, 0, 1, 129, 0), 12}, {more(0, 0, 0, 0, 1, 0, 129, 0), 13}, {more(0, 0, 0, 0, 1, 0, 0, 129, 0), 14}, {more(0, 0, 0, 0, 1, 0, 0, 0, 129, 0), 15},
		// Numbers that are cut.
		{more(0, 0, 0, 255, 255, 255), 10}, {more(0, 0, 0, 128, 128, 128, 128, 128, 128, 128, 128, 128), 10}, {more(0, 0, 0, 0, 1, 0, 0, 0, 128), 15},
		// Numbers of 2^64 and more, and those of more than ten bytes.
		{more(0, 0, 0, 128, 128, 128, 128, 128, 128, 128, 128, 128, 2, 0), 10}, {more(0, 0, 0, 255, 255, 255, 255, 255, 255, 255, 255, 255, 3, 0), 10},
		{more(0, 0, 0, 255, 255, 255, 255, 255, 255, 255, 255, 255, 127, 0), 10}, {more(0, 0, 0, 128, 128, 128, 128, 128, 128, 128, 128, 128, 129, 0, 0), 10},
		{more(0, 0, 0, 128, 128, 128, 128, 128, 128, 128, 128, 128, 128, 1, 0), 10}, {more(0, 0, 0, 255, 255, 255, 255, 255, 255, 255, 255, 255, 255, 255, 255, 0), 10},
		// Send is 0 or 1.
		{more(0, 0, 0, 0, 1, 2, 0, 0, 0), 12}, {more(0, 0, 0, 0, 1, 127, 0, 0, 0), 12}, {more(0, 0, 0, 0, 2, 1, 0, 0, 0, 129, 1, 0, 0, 0), 16},
		// The first of two faults.
		{[]byte{1, 128, 0, 128, 0}, 1}, {[]byte{2, 0, 0, 128, 0, 0, 0, 0, 0, 9}, 3}, {more(0, 0, 0, 0, 1, 3, 128, 0), 12},
	} {
		wantDecode(t, r.b, r.at, api.ErrText)
	}
}

// TestGreatNumbers: of each number of a module the least and the greatest that it may be, and what is beyond.
func TestGreatNumbers(t *testing.T) {
	m := full()
	names, values := spots(&m)
	for i, v := range values {
		if !v.CanInt() {
			continue
		}
		was, least := v.Int(), leastOf(names[i])
		for _, n := range []int64{least, 0, 1, 63, 127, 128, top - 1, top} {
			v.SetInt(n)
			b, e := code.Encode(m)
			want, _ := modelEncode(m)
			if e != api.OK || !slices.Equal(b, want) {
				t.Errorf("Encode with %d in %s = %v, %d", n, names[i], b, e)
			}
			wantModule(t, b, m)
		}
		for _, n := range []int64{-1 << 63, -top, -2, least - 1, top + 1, top + 2, 1<<32 - 1, 1 << 32, 1<<63 - 1} {
			v.SetInt(n)
			wantNoBytes(t, api.ErrForm, m)
		}
		v.SetInt(was)
	}
}

// TestGreatBytes: the number at fault is one above what may stand there, wherever it stands; the same number less one is none.
func TestGreatBytes(t *testing.T) {
	m := full()
	names, values := spots(&m)
	for i, v := range values {
		if !v.CanInt() {
			continue
		}
		was, least := v.Int(), leastOf(names[i])
		// What stands ahead of the number ends where two modules begin to differ that differ there.
		v.SetInt(top)
		great, _ := code.Encode(m)
		v.SetInt(top - 7)
		other, _ := code.Encode(m)
		v.SetInt(was)
		at := 0
		for great[at] == other[at] {
			at++
		}
		for n, isFault := range map[uint64]bool{top: false, top + 1: least == 0, top + 2: true, 1 << 32: true, 1<<64 - 1: true} {
			b := slices.Concat(great[:at], number(n), great[at+5:])
			if isFault {
				wantDecode(t, b, at, api.ErrText)
			} else {
				v.SetInt(int64(n) + least)
				wantModule(t, b, m)
				v.SetInt(was)
			}
		}
	}
}

// number is n as bytes.
func number(n uint64) []byte {
	var b []byte
	for n > 127 {
		b = append(b, byte(n%128)+128)
		n /= 128
	}
	return append(b, byte(n))
}

// TestThereAndBack: modules by chance, sound or not, against the model; and each of their beginnings.
func TestThereAndBack(t *testing.T) {
	for seed := range 2500 {
		m := someModule(rand.New(rand.NewSource(int64(seed))))
		b, e := code.Encode(m)
		want, _ := modelEncode(m)
		if e != api.OK || !slices.Equal(b, want) {
			t.Fatalf("%d: Encode(%+v) = %v, %d, not %v", seed, m, b, e, want)
		}
		wantModule(t, b, m)
		for n := range b {
			_, at, e := modelDecode(b[:n])
			wantDecode(t, b[:n], at, e)
		}
		wantDecode(t, append(b, 0), len(b), api.ErrText)
	}
}

// TestSpoiltBytes: the bytes of modules with some of them changed, put in or left out, against the model.
func TestSpoiltBytes(t *testing.T) {
	read := 0
	for seed := range 40000 {
		r := rand.New(rand.NewSource(int64(seed)))
		b, _ := modelEncode(someModule(r))
		for range 1 + r.Intn(3) {
			at, some := r.Intn(len(b)+1), []byte{0, 1, 2, 127, 128, 129, 255, byte(r.Intn(256))}
			end := min(len(b), at+r.Intn(3))
			b = slices.Concat(b[:at], slices.Repeat([]byte{some[r.Intn(8)]}, r.Intn(3)), b[end:])
		}
		m, at, e := modelDecode(b)
		if e != api.OK {
			wantDecode(t, b, at, e)
			continue
		}
		read++
		wantModule(t, b, m)
	}
	if read < 1000 || read > 39000 {
		t.Errorf("%d of them can be read", read)
	}
}

// TestAllShortBytes: all texts of up to six bytes from a few that matter, against the model.
func TestAllShortBytes(t *testing.T) {
	some := []byte{0, 1, 2, 127, 128, 129, 255}
	b := make([]byte, 0, 6)
	var all func()
	all = func() {
		m, at, e := modelDecode(b)
		if e == api.OK {
			wantModule(t, b, m)
		} else {
			wantDecode(t, b, at, e)
		}
		for _, c := range some {
			if len(b) < cap(b) {
				b = append(b, c)
				all()
				b = b[:len(b)-1]
			}
		}
	}
	all()
}

func TestSame(t *testing.T) {
	if !code.Same(api.Module{}, api.Module{}) || !code.Same(full(), full()) {
		t.Errorf("what is the same is not")
	}
	for seed := range 300 {
		r := rand.New(rand.NewSource(int64(seed)))
		a, b := someModule(r), someModule(r)
		if code.Same(a, b) != reflect.DeepEqual(clone(a), clone(b)) || !code.Same(a, clone(a)) {
			t.Errorf("Same(%+v, %+v)", a, b)
		}
	}
}

// TestSameInAll: one number, one flag or one list is another.
func TestSameInAll(t *testing.T) {
	m, was := full(), full()
	names, values := spots(&m)
	differ := func(what string) {
		t.Helper()
		if code.Same(m, was) || code.Same(was, m) || !code.Same(m, m) {
			t.Errorf("another %s is not seen", what)
		}
	}
	for i, v := range values {
		kept := reflect.New(v.Type()).Elem()
		kept.Set(v)
		switch v.Kind() {
		case reflect.Int:
			for _, n := range []int64{-1, 1, 1 << 40, -1 << 63} {
				v.SetInt(kept.Int() + n)
				differ(names[i])
			}
		case reflect.Uint64:
			for _, n := range []uint64{1, 1 << 63} {
				v.SetUint(kept.Uint() ^ n)
				differ(names[i])
			}
		case reflect.Bool:
			v.SetBool(!kept.Bool())
			differ(names[i])
		case reflect.Slice:
			v.Set(reflect.Append(kept.Slice3(0, kept.Len(), kept.Len()), reflect.Zero(v.Type().Elem())))
			differ("longer " + names[i])
			if kept.Len() > 0 {
				v.Set(kept.Slice(0, kept.Len()-1))
				differ("shorter " + names[i])
			}
		}
		v.Set(kept)
	}
	if !code.Same(m, was) {
		t.Errorf("not as it was: %+v", m)
	}
}

// TestSameAnyway: numbers that have no bytes, nil and empty lists, and spare room.
func TestSameAnyway(t *testing.T) {
	a := api.Module{Types: []api.Shape{{Kind: -1 << 63, Res: 1<<63 - 1}}, Funcs: []api.Func{{Params: -5, Code: []api.Instr{{Op: -6, Cases: []api.Case{{Chan: -7}}}}}}}
	if !code.Same(a, clone(a)) {
		t.Errorf("Same of what is not sound")
	}
	some := []api.Module{{}, {Types: make([]api.Shape, 1)}, {Funcs: make([]api.Func, 1)}, {Funcs: []api.Func{{Code: make([]api.Instr, 1)}}}, full(), a}
	for n, m := range some {
		empty := roomy(m)
		for _, pair := range [][2]api.Module{{m, empty}, {empty, m}, {empty, empty}} {
			if !code.Same(pair[0], pair[1]) {
				t.Errorf("%d: nil and empty lists differ", n)
			}
		}
		if code.Check(m) != code.Check(empty) {
			t.Errorf("%d: Check tells nil from empty lists", n)
		}
		b, e := code.Encode(m)
		c, f := code.Encode(empty)
		if !slices.Equal(b, c) || e != f {
			t.Errorf("%d: Encode tells nil from empty lists", n)
		}
	}
}

// wantModule takes from Decode the module, and from Encode of it the bytes.
func wantModule(t *testing.T, b []byte, want api.Module) {
	t.Helper()
	m, at, e := code.Decode(b)
	if at != 0 || e != api.OK || !reflect.DeepEqual(clone(m), clone(want)) || !code.Same(m, want) {
		t.Fatalf("Decode(%s) = %+v, %d, %d", short(b), m, at, e)
	}
	if again, e := code.Encode(m); !slices.Equal(again, b) || e != api.OK {
		t.Errorf("Encode of Decode(%s) = %s, %d", short(b), short(again), e)
	}
}

// wantDecode takes an error from Decode, and nothing beside it but the place.
func wantDecode(t *testing.T, b []byte, at int, e api.Errno) {
	t.Helper()
	m, n, f := code.Decode(b)
	if n != at || f != e || !reflect.DeepEqual(m, api.Module{}) {
		t.Errorf("Decode(%s) = %+v, %d, %d, not %d, %d", short(b), m, n, f, at, e)
	}
}

// wantNoBytes takes an error from Encode, and nothing beside it.
func wantNoBytes(t *testing.T, want api.Errno, m api.Module) {
	t.Helper()
	if b, e := code.Encode(m); b != nil || e != want {
		t.Errorf("Encode: %s, %d, not %d", short(b), e, want)
	}
}

// short is b as text, if it is not too long.
func short(b []byte) string {
	if len(b) > 100 {
		return fmt.Sprintf("%v .. %d bytes", b[:50], len(b))
	}
	return fmt.Sprint(b)
}
