package tests

import (
	"math"
	"slices"
	"testing"

	"loop.example/g00182/impl"
)

func doOne(f impl.Fun) made {
	return ofOne("DoOne of "+funWords(f), func(b impl.Array) (impl.Array, int) { return impl.DoOne(f, b) })
}

func doTwo(f impl.Fun) made {
	return made{"DoTwo of " + funWords(f), func(a impl.Array, b impl.Array) (impl.Array, int) { return impl.DoTwo(f, a, b) }}
}

// wantedDoOne names the function of an earlier chapter that f stands for.
func wantedDoOne(f impl.Fun) made {
	switch {
	case f.Oper == '/':
		return reduceBy(f.Sign)
	case f.Oper == '\\':
		return scanBy(f.Sign)
	case isByteOf(signsOfOne, f.Sign):
		return ofOne("EachOne", func(b impl.Array) (impl.Array, int) { return impl.EachOne(f.Sign, b) })
	}
	return map[int]made{'i': iotaOf, '#': shapeOf, ',': ravel, 'r': turn, 'z': flip, 'g': grade}[f.Sign]
}

func wantedDoTwo(f impl.Fun) made {
	switch {
	case f.Oper == 'o':
		return outerBy(f.Sign)
	case f.Oper == '.':
		return innerBy(f.Sign, f.With)
	case isByteOf(signsOfTwo, f.Sign):
		return made{"EachTwo", func(a impl.Array, b impl.Array) (impl.Array, int) { return impl.EachTwo(f.Sign, a, b) }}
	}
	return map[int]made{'#': reshape, ',': join, 't': take, 'd': drop, 'r': rotate, '@': pick, '?': find, '$': copies, 'e': within}[f.Sign]
}

func funsOfOne() []impl.Fun {
	return slices.DeleteFunc(everyFun(), func(f impl.Fun) bool { return !wantedFunOne(f) })
}

func funsOfTwo() []impl.Fun {
	return slices.DeleteFunc(everyFun(), func(f impl.Fun) bool { return !wantedFunTwo(f) })
}

// someFunsOfTwo has just a few of the many inner ones.
func someFunsOfTwo() []impl.Fun {
	return slices.DeleteFunc(funsOfTwo(), func(f impl.Fun) bool { return f.Oper == '.' && (f.Sign+f.With)%7 != 0 })
}

// Each function of one array has another answer here, or to the next array.
func TestDoOneOrdinary(t *testing.T) {
	v, m := vector(3, -1, 0, 3), inShape([]int{2, 3}, 4, 0, -2, 5, 7, 1)
	for _, c := range []struct {
		f    impl.Fun
		ofV  impl.Array
		ofM  impl.Array
		some impl.Array
	}{
		{plainFun('+'), v, m, scalar(6)},
		{plainFun('-'), vector(-3, 1, 0, -3), inShape([]int{2, 3}, -4, 0, 2, -5, -7, -1), scalar(-6)},
		{plainFun('*'), vector(1, -1, 0, 1), inShape([]int{2, 3}, 1, 0, -1, 1, 1, 1), scalar(1)},
		{plainFun('|'), vector(3, 1, 0, 3), inShape([]int{2, 3}, 4, 0, 2, 5, 7, 1), scalar(6)},
		{plainFun('#'), vector(4), vector(2, 3), vector()},
		{plainFun(','), v, vector(4, 0, -2, 5, 7, 1), vector(6)},
		{plainFun('r'), vector(3, 0, -1, 3), inShape([]int{2, 3}, 5, 7, 1, 4, 0, -2), scalar(6)},
		{plainFun('z'), v, inShape([]int{3, 2}, 4, 5, 0, 7, -2, 1), scalar(6)},
		{operFun('+', '/'), scalar(5), vector(9, 7, -1), scalar(6)},
		{operFun('-', '/'), scalar(1), vector(-1, -7, -3), scalar(6)},
		{operFun('*', '/'), scalar(0), vector(20, 0, -2), scalar(6)},
		{operFun('&', '/'), scalar(-1), vector(4, 0, -2), scalar(6)},
		{operFun('^', '/'), scalar(3), vector(5, 7, 1), scalar(6)},
		{operFun('+', '\\'), vector(3, 2, 2, 5), inShape([]int{2, 3}, 4, 0, -2, 9, 7, -1), scalar(6)},
		{operFun('-', '\\'), vector(3, 4, 4, 1), inShape([]int{2, 3}, 4, 0, -2, -1, -7, -3), scalar(6)},
		{operFun('^', '\\'), vector(3, 3, 3, 3), inShape([]int{2, 3}, 4, 0, -2, 5, 7, 1), scalar(6)},
	} {
		doOne(c.f).wantOne(t, v, c.ofV, impl.ErNone)
		doOne(c.f).wantOne(t, m, c.ofM, impl.ErNone)
		doOne(c.f).wantOne(t, scalar(6), c.some, impl.ErNone)
	}
	doOne(plainFun('i')).wantOne(t, scalar(4), vector(0, 1, 2, 3), impl.ErNone)
	doOne(plainFun('g')).wantOne(t, v, vector(1, 2, 0, 3), impl.ErNone)
	doOne(plainFun('~')).wantOne(t, vector(0, 1), vector(1, 0), impl.ErNone)
	doOne(operFun('=', '/')).wantOne(t, vector(), scalar(1), impl.ErNone)
}

// What is on the left and what is on the right are told apart.
func TestDoTwoOrdinary(t *testing.T) {
	two, v, m := scalar(2), vector(4, 7, 1), inShape([]int{3, 2}, 1, 2, 3, 4, 5, 6)
	for _, c := range []struct {
		f    impl.Fun
		a, b impl.Array
		want impl.Array
	}{
		{plainFun('+'), two, v, vector(6, 9, 3)}, {plainFun('-'), two, v, vector(-2, -5, 1)}, {plainFun('*'), two, v, vector(8, 14, 2)},
		{plainFun('%'), v, two, vector(2, 3, 0)}, {plainFun('|'), two, v, vector(0, 1, 1)}, {plainFun('&'), two, v, vector(2, 2, 1)},
		{plainFun('^'), two, v, vector(4, 7, 2)}, {plainFun('='), two, vector(2, 3), vector(1, 0)}, {plainFun('<'), two, v, vector(1, 1, 0)},
		{plainFun('>'), two, v, vector(0, 0, 1)},
		{plainFun('#'), vector(2, 2), v, inShape([]int{2, 2}, 4, 7, 1, 4)}, {plainFun(','), two, v, vector(2, 4, 7, 1)}, {plainFun(','), v, two, vector(4, 7, 1, 2)},
		{plainFun('t'), two, v, vector(4, 7)}, {plainFun('d'), two, v, vector(1)}, {plainFun('r'), two, v, vector(1, 4, 7)},
		{plainFun('@'), two, v, scalar(1)}, {plainFun('@'), two, m, vector(5, 6)}, {plainFun('?'), v, vector(1, 2), vector(2, 3)},
		{plainFun('$'), vector(1, 0, 2), v, vector(4, 1, 1)}, {plainFun('$'), two, vector(4, 7), vector(4, 4, 7, 7)}, {plainFun('e'), v, vector(7, 4), vector(1, 1, 0)},
		{operFun('-', 'o'), vector(1, 2), v, inShape([]int{2, 3}, -3, -6, 0, -2, -5, 1)}, {operFun('>', 'o'), v, two, vector(1, 1, 0)},
		{innerFun('+', '*'), v, m, vector(4+21+5, 8+28+6)}, {innerFun('-', '+'), v, vector(1, 2, 3), scalar(5 - (9 - 4))}, {innerFun('+', '-'), v, vector(1, 2, 3), scalar(3 + 5 - 2)},
	} {
		doTwo(c.f).want(t, c.a, c.b, c.want, impl.ErNone)
	}
}

// arraysToDo has small arrays of each kind of shape, with numbers of which the
// functions have answers, and ones of which they have codes.
func arraysToDo() []impl.Array {
	list := []impl.Array{scalar(0), scalar(1), scalar(-1), scalar(2), scalar(300), scalar(301), scalar(top), scalar(-top), vector(top, top), vector(1, 0, 0, 1), vector(3, 1, 2, 1), {Shape: []int{2}, Data: []int{top + 1, 0}}, {}}
	for turn, shape := range smallShapes() {
		list = append(list, repeated(shape, []int{0, 1, 1}, turn%3), repeated(shape, []int{-1, 2, -3, 2}, turn%4))
	}
	return list
}

func TestDoOneIsItsFunction(t *testing.T) {
	codes := map[int]int{}
	for _, f := range funsOfOne() {
		for _, b := range arraysToDo() {
			want, code := wantedDoOne(f).does(b, b)
			doOne(f).wantOne(t, b, want, code)
			codes[code]++
		}
	}
	if len(codes) < 6 {
		t.Error("the test itself hardly has codes:", codes)
	}
}

func TestDoTwoIsItsFunction(t *testing.T) {
	codes := map[int]int{}
	left := []impl.Array{scalar(0), scalar(-1), scalar(2), scalar(top), vector(), vector(2), vector(0, 1), vector(2, 0, 1), vector(1, 2, 3, 4), vector(-1, 1), inShape([]int{2, 2}, 0, 1, 1, 0), inShape([]int{1, 1, 1}, 1), {}}
	for _, f := range funsOfTwo() {
		for _, b := range arraysToDo() {
			for _, a := range append(left, b) {
				want, code := wantedDoTwo(f).does(a, b)
				doTwo(f).want(t, a, b, want, code)
				codes[code]++
			}
		}
	}
	if len(codes) < 7 {
		t.Error("the test itself hardly has codes:", codes)
	}
}

// noFuns has functions that are no FunOne and no FunTwo, and those that are
// just one of both.
func noFuns() []impl.Fun {
	list := append(everyFun(), impl.Fun{}, impl.Fun{Oper: '/'}, impl.Fun{Oper: 'o'}, impl.Fun{Oper: '.'}, impl.Fun{Sign: '+', Oper: '.'}, impl.Fun{Oper: '.', With: '+'})
	for _, x := range append(wrongSigns(everySign), 0, '+', '/', 'i', 't') {
		list = append(list, impl.Fun{Sign: x}, impl.Fun{Sign: x, Oper: '/'}, impl.Fun{Sign: x, Oper: 'o'}, impl.Fun{Sign: x, Oper: '.', With: '+'}, impl.Fun{Sign: '+', Oper: '.', With: x},
			impl.Fun{Sign: '+', Oper: x}, impl.Fun{Sign: 'i', Oper: x}, impl.Fun{Sign: '+', Oper: x, With: '*'}, impl.Fun{Sign: '+', With: x}, impl.Fun{Sign: '#', With: x},
			impl.Fun{Sign: '+', Oper: '/', With: x}, impl.Fun{Sign: '+', Oper: '\\', With: x}, impl.Fun{Sign: '+', Oper: 'o', With: x})
	}
	return list
}

func TestDoOfNoFunction(t *testing.T) {
	arrays := []impl.Array{scalar(1), vector(0, 1), inShape([]int{2, 2}, 1, 2, 3, 4), {}, inShape([]int{2}, 1), scalar(math.MinInt)}
	ones, twos := 0, 0
	for _, f := range noFuns() {
		for _, b := range arrays {
			if !wantedFunOne(f) {
				doOne(f).wantOne(t, b, impl.Array{}, impl.ErBad)
				ones++
			}
			for _, a := range arrays {
				if !wantedFunTwo(f) {
					doTwo(f).want(t, a, b, impl.Array{}, impl.ErBad)
					twos++
				}
			}
		}
	}
	if ones < 1000 || twos < 1000 {
		t.Error("the test itself hardly has functions that are none:", ones, twos)
	}
}

func TestDoOfWrongArrays(t *testing.T) {
	var ones, twos []made
	for _, f := range funsOfOne() {
		ones = append(ones, doOne(f))
	}
	for _, f := range someFunsOfTwo() {
		twos = append(twos, doTwo(f))
	}
	refuseWrongOnes(t, ones, twos)
}

func TestDoIsNewMemory(t *testing.T) {
	pairs := [][2]impl.Array{{vector(1, 0), vector(2, 3)}, {scalar(1), vector(2, 3)}, {vector(1), scalar(1)}, {scalar(1), scalar(0)}, {vector(2, 3), scalar(2)}, {vector(), vector()}, {scalar(0), inShape([]int{1, 2}, 5, 6)},
		{inShape([]int{2, 2}, 1, 2, 3, 4), inShape([]int{2, 2}, 0, 1, 1, 0)}, {scalar(2), inShape([]int{2, 1, 2}, 0, 1, 1, 0)}, {vector(top, 1), vector(top, 2)}, {impl.Array{}, vector(1)}, {vector(1, 2), vector(1, 2, 3)}}
	for _, f := range funsOfOne() {
		wantNewMemory(t, []made{doOne(f)}, pairs)
	}
	for _, f := range funsOfTwo() {
		wantNewMemory(t, []made{doTwo(f)}, pairs)
	}
}

// varsWith has these letters set, in their order, and no others.
func varsWith(names string, values ...impl.Array) []impl.Var {
	vars := make([]impl.Var, 26)
	for i, name := range []byte(names) {
		vars[name-'A'] = impl.Var{Set: true, Value: values[i]}
	}
	return vars
}

func sameVar(a impl.Var, b impl.Var) bool { return a.Set == b.Set && alike(a.Value, b.Value) }

func sameVars(a []impl.Var, b []impl.Var) bool { return slices.EqualFunc(a, b, sameVar) }

func copiedVars(vars []impl.Var) []impl.Var {
	list := slices.Clone(vars)
	for i := range list {
		list[i].Value = copied(list[i].Value)
	}
	return list
}

func wantVarsOk(t *testing.T, want bool, vars []impl.Var) {
	t.Helper()
	if impl.VarsOk(vars) != want {
		t.Errorf("VarsOk(%v) is not %t", vars, want)
	}
}

func TestVarsNew(t *testing.T) {
	vars := impl.VarsNew()
	if !sameVars(vars, make([]impl.Var, 26)) {
		t.Error("VarsNew() =", vars)
	}
	wantVarsOk(t, true, vars)
	for i := range vars[:cap(vars)] {
		vars[:cap(vars)][i] = impl.Var{Set: true, Value: scalar(i)}
	}
	if again := impl.VarsNew(); !sameVars(again, make([]impl.Var, 26)) {
		t.Error("a write into the letters turns new ones:", again)
	}
}

func TestVarsOkHowMany(t *testing.T) {
	wantVarsOk(t, false, nil)
	wantVarsOk(t, false, []impl.Var{})
	for _, long := range []int{1, 2, 13, 24, 25, 26, 27, 28, 52, 256 + 26, 100000} {
		wantVarsOk(t, long == 26, make([]impl.Var, long))
		wantVarsOk(t, long == 26, slices.Repeat([]impl.Var{{Set: true, Value: vector(1, 2)}}, long))
	}
	wantVarsOk(t, true, make([]impl.Var, 26, 40))
	wantVarsOk(t, false, make([]impl.Var, 25, 26))
}

func TestVarsOkOfEachLetter(t *testing.T) {
	wrong := append(everyWrongArray(), impl.Array{}, impl.Array{Shape: []int{}, Data: []int{}})
	for i := range 26 {
		for _, others := range [][]impl.Var{make([]impl.Var, 26), slices.Repeat([]impl.Var{{Set: true, Value: vector(1, 2)}}, 26)} {
			with := func(v impl.Var) []impl.Var {
				vars := slices.Clone(others)
				vars[i] = v
				return vars
			}
			for turn, a := range wrong {
				// Most of the wrong ones are tried at some of the letters alone.
				if turn%13 == i%13 {
					wantVarsOk(t, false, with(impl.Var{Set: true, Value: a}))
				}
			}
			for _, shape := range everyShape() {
				wantVarsOk(t, true, with(impl.Var{Set: true, Value: numberedArray(shape)}))
				wantVarsOk(t, false, with(impl.Var{Value: numberedArray(shape)}))
			}
			for _, a := range []impl.Array{{Shape: []int{0}}, {Shape: []int{-1}}, {Shape: []int{1, 2}}, {Data: []int{0}}, {Data: []int{top + 1}}, {Shape: []int{}, Data: []int{0, 0}}, {Shape: []int{0}, Data: []int{}}} {
				wantVarsOk(t, false, with(impl.Var{Value: a}))
			}
			wantVarsOk(t, true, with(impl.Var{}))
			wantVarsOk(t, true, with(impl.Var{Value: impl.Array{Shape: []int{}, Data: []int{}}}))
			wantVarsOk(t, true, with(impl.Var{Value: impl.Array{Shape: make([]int, 0, 3), Data: make([]int, 0, 3)}}))
			wantVarsOk(t, false, with(impl.Var{Set: true}))
		}
	}
}
