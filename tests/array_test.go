package tests

import (
	"math"
	"slices"
	"testing"

	"loop.example/g00182/impl"
)

// wrongShapes has lists that are no shapes; the size that some of them would
// wrap round to is a small one.
func wrongShapes() [][]int {
	return [][]int{{-1}, {-1, -1}, {2, -1}, {-1, 0}, {0, -1}, {301}, {301, 0}, {0, 301}, {300, 2}, {7, 43}, {17, 18},
		{1, 1, 1, 1}, {0, 0, 0, 0}, {1, 1, 1, 1, 1}, {1 << 32, 1 << 32}, {1 << 62, 4}, {math.MaxInt, math.MaxInt},
		{math.MaxInt}, {math.MinInt}, {math.MinInt, 0}}
}

// numbered has that many right numbers, no two alike, on both sides of nought.
func numbered(long int) []int {
	list := make([]int, long)
	for i := range list {
		list[i] = 1000 + 7*i
		if i%2 == 1 {
			list[i] = -list[i]
		}
	}
	return list
}

func numberedArray(shape []int) impl.Array {
	return impl.Array{Shape: slices.Clone(shape), Data: numbered(wantedSize(shape))}
}

func alike(a impl.Array, b impl.Array) bool {
	return slices.Equal(a.Shape, b.Shape) && slices.Equal(a.Data, b.Data)
}

func copied(a impl.Array) impl.Array {
	return impl.Array{Shape: slices.Clone(a.Shape), Data: slices.Clone(a.Data)}
}

// wrongArrays breaks a right array in each way that there is.
func wrongArrays(a impl.Array) []impl.Array {
	list := []impl.Array{{Shape: a.Shape, Data: append(slices.Clone(a.Data), 5)}}
	if len(a.Data) > 0 {
		list = append(list, impl.Array{Shape: a.Shape, Data: a.Data[1:]}, impl.Array{Shape: a.Shape})
	}
	for i := range a.Data {
		for _, x := range wrongNumbers() {
			b := copied(a)
			b.Data[i] = x
			list = append(list, b)
		}
	}
	return list
}

// arraysOfNoShape have as many numbers as the shape might be taken to want.
func arraysOfNoShape() []impl.Array {
	var list []impl.Array
	for _, shape := range wrongShapes() {
		for _, long := range []int{0, 1, 2, 4, 300, 301, 306, 600} {
			list = append(list, impl.Array{Shape: shape, Data: numbered(long)})
		}
	}
	return list
}

// smallShapes has one of each rank and each place of a nought: enough where
// each array is broken at every place, or held against every other one.
func smallShapes() [][]int {
	return [][]int{{}, {0}, {1}, {2}, {5}, {0, 0}, {0, 2}, {2, 0}, {1, 1}, {2, 3}, {3, 2}, {1, 6}, {6, 1},
		{0, 2, 3}, {2, 0, 3}, {2, 3, 0}, {0, 0, 0}, {1, 1, 1}, {2, 2, 2}, {2, 3, 4}, {1, 2, 3}}
}

func everyWrongArray() []impl.Array {
	list := arraysOfNoShape()
	for _, shape := range smallShapes() {
		list = append(list, wrongArrays(numberedArray(shape))...)
	}
	return list
}

func TestArrayOk(t *testing.T) {
	for _, shape := range someShapes() {
		if a := numberedArray(shape); !impl.ArrayOk(a) {
			t.Error("right, but refused:", a)
		}
	}
	for _, a := range everyWrongArray() {
		if impl.ArrayOk(a) {
			t.Error("not right, but accepted:", a)
		}
	}
	if impl.ArrayOk(impl.Array{}) {
		t.Error("the array of no shape wants a number, but is accepted without one")
	}
}

func TestArrayOkWithoutNumbers(t *testing.T) {
	for _, shape := range [][]int{{0}, {0, 300}, {300, 0}, {0, 0, 0}, {300, 300, 0}, {300, 0, 300}, {0, 300, 300}} {
		if !impl.ArrayOk(impl.Array{Shape: shape}) || !impl.ArrayOk(impl.Array{Shape: shape, Data: []int{}}) {
			t.Error("right without numbers, but refused:", shape)
		}
		if impl.ArrayOk(impl.Array{Shape: shape, Data: []int{0}}) {
			t.Error("one number too many, but accepted:", shape)
		}
	}
}

func TestArrayOkAtTheLimits(t *testing.T) {
	for _, shape := range [][]int{{300}, {1, 300}, {300, 1}, {15, 20}, {10, 10, 3}, {1, 1, 300}} {
		for i := range impl.MaxSize {
			a := numberedArray(shape)
			a.Data[i] = top
			if !impl.ArrayOk(a) {
				t.Error("the greatest number is refused at", i, "of", shape)
			}
			a.Data[i] = -top
			if !impl.ArrayOk(a) {
				t.Error("the least number is refused at", i, "of", shape)
			}
			a.Data[i] = top + 1
			if impl.ArrayOk(a) {
				t.Error("one beyond the greatest is accepted at", i, "of", shape)
			}
			a.Data[i] = -top - 1
			if impl.ArrayOk(a) {
				t.Error("one beyond the least is accepted at", i, "of", shape)
			}
		}
	}
}

func TestArraySameOfShapes(t *testing.T) {
	var list []impl.Array
	for _, shape := range someShapes() {
		list = append(list, numberedArray(shape))
	}
	for _, a := range list {
		for _, b := range list {
			if got := impl.ArraySame(a, copied(b)); got != alike(a, b) {
				t.Errorf("ArraySame(%v, %v) = %v", a, b, got)
			}
		}
	}
}

func TestArraySameOfNumbers(t *testing.T) {
	for _, shape := range append(smallShapes(), []int{300}, []int{10, 10, 3}) {
		a := numberedArray(shape)
		for i := range a.Data {
			b := copied(a)
			b.Data[i]++
			if impl.ArraySame(a, b) || impl.ArraySame(b, a) {
				t.Error("not alike at", i, "but told so:", shape)
			}
		}
	}
}

// Alike but not right is not the same.
func TestArraySameOfWrongOnes(t *testing.T) {
	scalar := impl.Array{Data: []int{1}}
	for _, a := range everyWrongArray() {
		if impl.ArraySame(a, a) || impl.ArraySame(a, copied(a)) || impl.ArraySame(a, scalar) || impl.ArraySame(scalar, a) {
			t.Error("not right, but told the same:", a)
		}
	}
	if impl.ArraySame(impl.Array{}, impl.Array{}) {
		t.Error("two zero arrays are not right, but told the same")
	}
}

// An empty list and nil are the same value.
func TestArraySameOfEmptyLists(t *testing.T) {
	if !impl.ArraySame(impl.Array{Shape: []int{}, Data: []int{4}}, impl.Array{Data: []int{4}}) {
		t.Error("an empty Shape and none are not told the same")
	}
	if !impl.ArraySame(impl.Array{Shape: []int{0}, Data: []int{}}, impl.Array{Shape: []int{0}}) {
		t.Error("empty Data and none are not told the same")
	}
}

func TestScalarOf(t *testing.T) {
	for _, x := range rightNumbers() {
		if a, ok := impl.ScalarOf(x); !ok || !alike(a, impl.Array{Data: []int{x}}) || !impl.ArrayOk(a) {
			t.Errorf("ScalarOf(%d) = %v, %v", x, a, ok)
		}
	}
	for _, x := range wrongNumbers() {
		if a, ok := impl.ScalarOf(x); ok || !alike(a, impl.Array{}) {
			t.Errorf("ScalarOf(%d) = %v, %v; want zero, false", x, a, ok)
		}
	}
}

func TestVectorOf(t *testing.T) {
	for long := range impl.MaxSize + 1 {
		list := numbered(long)
		a, ok := impl.VectorOf(list)
		if !ok || !alike(a, impl.Array{Shape: []int{long}, Data: list}) || !impl.ArrayOk(a) {
			t.Errorf("VectorOf(%v) = %v, %v", list, a, ok)
		}
	}
	if a, ok := impl.VectorOf(nil); !ok || !alike(a, impl.Array{Shape: []int{0}}) {
		t.Errorf("VectorOf(nil) = %v, %v", a, ok)
	}
	edge := []int{top, -top, 0}
	if a, ok := impl.VectorOf(edge); !ok || !alike(a, impl.Array{Shape: []int{3}, Data: edge}) {
		t.Errorf("VectorOf(%v) = %v, %v", edge, a, ok)
	}
}

func TestVectorOfWrong(t *testing.T) {
	lists := [][]int{numbered(301), numbered(302), numbered(600), numbered(100000), make([]int, 301)}
	for _, long := range []int{1, 2, 3, 300} {
		for i := range long {
			for _, x := range wrongNumbers() {
				list := numbered(long)
				list[i] = x
				lists = append(lists, list)
			}
		}
	}
	for _, list := range lists {
		if a, ok := impl.VectorOf(list); ok || !alike(a, impl.Array{}) {
			t.Errorf("VectorOf of %d numbers = %v, %v; want zero, false", len(list), a, ok)
		}
	}
}

func wantNum(t *testing.T, a impl.Array, index []int, want int, is bool) {
	t.Helper()
	if x, ok := impl.NumAt(a, index); x != want || ok != is {
		t.Errorf("NumAt(%v, %v) = %d, %v; want %d, %v", a, index, x, ok, want, is)
	}
}

func TestNumAtOrdinary(t *testing.T) {
	data := []int{10, 11, 12, 13, 14, 15}
	wantNum(t, impl.Array{Data: []int{9}}, nil, 9, true)
	wantNum(t, impl.Array{Data: []int{9}}, []int{}, 9, true)
	wantNum(t, impl.Array{Shape: []int{6}, Data: data}, []int{4}, 14, true)
	wantNum(t, impl.Array{Shape: []int{2, 3}, Data: data}, []int{1, 0}, 13, true)
	wantNum(t, impl.Array{Shape: []int{3, 2}, Data: data}, []int{1, 0}, 12, true)
	wantNum(t, impl.Array{Shape: []int{1, 3, 2}, Data: data}, []int{0, 2, 1}, 15, true)
	wantNum(t, impl.Array{Shape: []int{2}, Data: []int{0, 0}}, []int{1}, 0, true)
}

func TestNumAtEveryIndex(t *testing.T) {
	for _, shape := range someShapes() {
		a := numberedArray(shape)
		for place, index := range listedIndexes(shape) {
			wantNum(t, a, index, a.Data[place], true)
		}
	}
}

// The last index is there, and in no direction one behind it.
func TestNumAtTheLastIndex(t *testing.T) {
	for _, shape := range someShapes() {
		a := numberedArray(shape)
		last := make([]int, len(shape))
		for i, n := range shape {
			last[i] = n - 1
		}
		if len(a.Data) > 0 {
			wantNum(t, a, last, a.Data[len(a.Data)-1], true)
		}
		for i, n := range shape {
			for _, x := range []int{n, n + 1, -1, 1 << 32, 1 << 62, math.MaxInt, math.MinInt} {
				behind := slices.Clone(last)
				behind[i] = x
				wantNum(t, a, behind, 0, false)
			}
		}
	}
}

func TestNumAtOfAnotherLength(t *testing.T) {
	for _, shape := range someShapes() {
		for long := range 6 {
			if long != len(shape) {
				wantNum(t, numberedArray(shape), make([]int, long), 0, false)
			}
		}
	}
}

func TestNumAtOfNoNumbers(t *testing.T) {
	for _, shape := range [][]int{{0}, {0, 2}, {2, 0}, {0, 2, 3}, {2, 0, 3}, {2, 3, 0}, {300, 300, 0}, {0, 300, 300}} {
		wantNum(t, impl.Array{Shape: shape}, make([]int, len(shape)), 0, false)
		wantNum(t, impl.Array{Shape: shape}, nil, 0, false)
	}
}

// A wrong number counts wherever it stands, not at the index alone.
func TestNumAtOfWrongOnes(t *testing.T) {
	for _, a := range everyWrongArray() {
		wantNum(t, a, make([]int, len(a.Shape)), 0, false)
		wantNum(t, a, nil, 0, false)
	}
	wantNum(t, impl.Array{}, nil, 0, false)
}

// wantedRows finds the numbers of each row by their indexes, as these are
// counted off, and not by cutting.
func wantedRows(a impl.Array) []impl.Array {
	list := make([]impl.Array, a.Shape[0])
	for i := range list {
		list[i].Shape = a.Shape[1:]
	}
	for place, index := range listedIndexes(a.Shape) {
		row := &list[index[0]]
		row.Data = append(row.Data, a.Data[place])
	}
	return list
}

func wantRows(t *testing.T, a impl.Array, want []impl.Array) {
	t.Helper()
	if got := impl.Rows(a); !slices.EqualFunc(got, want, alike) {
		t.Errorf("Rows(%v) = %v; want %v", a, got, want)
	}
}

func TestRowsOrdinary(t *testing.T) {
	data := []int{1, 2, 3, 4, 5, 6, 7, 8, 9, 10, 11, 12}
	wantRows(t, impl.Array{Shape: []int{3}, Data: data[:3]}, []impl.Array{{Data: data[:1]}, {Data: data[1:2]}, {Data: data[2:3]}})
	wantRows(t, impl.Array{Shape: []int{2, 3}, Data: data[:6]}, []impl.Array{
		{Shape: []int{3}, Data: data[:3]}, {Shape: []int{3}, Data: data[3:6]}})
	wantRows(t, impl.Array{Shape: []int{3, 2}, Data: data[:6]}, []impl.Array{
		{Shape: []int{2}, Data: data[:2]}, {Shape: []int{2}, Data: data[2:4]}, {Shape: []int{2}, Data: data[4:6]}})
	wantRows(t, impl.Array{Shape: []int{2, 2, 3}, Data: data}, []impl.Array{
		{Shape: []int{2, 3}, Data: data[:6]}, {Shape: []int{2, 3}, Data: data[6:]}})
}

func TestRowsOfEveryShape(t *testing.T) {
	for _, shape := range someShapes() {
		if len(shape) > 0 {
			a := numberedArray(shape)
			wantRows(t, a, wantedRows(a))
		}
	}
}

// Promise 3, down to single numbers: rows of rows are told until they are of
// rank 0.
func TestRowsHaveAllNumbersInOrder(t *testing.T) {
	var numbersOf func(a impl.Array) []int
	numbersOf = func(a impl.Array) []int {
		if !impl.ArrayOk(a) {
			t.Error("a row is not right:", a)
		}
		if len(a.Shape) == 0 {
			return a.Data
		}
		var list, deep []int
		for _, row := range impl.Rows(a) {
			list = append(list, row.Data...)
			deep = append(deep, numbersOf(row)...)
		}
		if !slices.Equal(list, deep) || !slices.Equal(list, a.Data) {
			t.Error("the rows have other numbers:", a, list, deep)
		}
		return list
	}
	for _, shape := range someShapes() {
		numbersOf(numberedArray(shape))
	}
}

func TestNumbersOfRowsStandAtTheirIndex(t *testing.T) {
	for _, shape := range someShapes() {
		if len(shape) == 0 {
			continue
		}
		a := numberedArray(shape)
		rows := impl.Rows(a)
		for place, index := range listedIndexes(shape) {
			wantNum(t, rows[index[0]], index[1:], a.Data[place], true)
		}
	}
}

func TestRowsWithoutNumbers(t *testing.T) {
	for _, shape := range [][]int{{0}, {0, 0}, {0, 2}, {0, 300}, {0, 0, 0}, {0, 2, 3}, {0, 300, 300}} {
		wantRows(t, impl.Array{Shape: shape}, nil)
	}
	for _, shape := range [][]int{{1, 0}, {2, 0}, {300, 0}, {2, 0, 3}, {2, 3, 0}, {1, 0, 0}, {300, 300, 0}, {300, 0, 300}} {
		rows := impl.Rows(impl.Array{Shape: shape})
		if len(rows) != shape[0] {
			t.Error("an array of shape", shape, "has", len(rows), "rows")
		}
		for _, row := range rows {
			if !slices.Equal(row.Shape, shape[1:]) || len(row.Data) != 0 {
				t.Error("a row without numbers is", row, "of", shape)
			}
		}
	}
}

func TestRowsAtTheLimits(t *testing.T) {
	data := numbered(impl.MaxSize)
	data[0], data[299] = top, -top
	for _, shape := range [][]int{{1, 300}, {1, 1, 300}, {1, 300, 1}, {1, 20, 15}} {
		wantRows(t, impl.Array{Shape: shape, Data: data}, []impl.Array{{Shape: shape[1:], Data: data}})
	}
	for _, shape := range [][]int{{300}, {300, 1}, {300, 1, 1}, {150, 2}, {2, 150}, {10, 10, 3}, {3, 10, 10}} {
		a := impl.Array{Shape: shape, Data: data}
		wantRows(t, a, wantedRows(a))
	}
	wantRows(t, impl.Array{Shape: []int{1}, Data: data[:1]}, []impl.Array{{Data: data[:1]}})
}

func TestRowsOfNone(t *testing.T) {
	for _, x := range []int{0, 5, top, -top} {
		wantRows(t, impl.Array{Data: []int{x}}, nil)
		wantRows(t, impl.Array{Shape: []int{}, Data: []int{x}}, nil)
	}
	wantRows(t, impl.Array{}, nil)
	for _, a := range everyWrongArray() {
		wantRows(t, a, nil)
	}
}

// guarded is an array whose lists have spare room behind them, and what they
// must look like, that room too, behind every call.
type guarded struct {
	array       impl.Array
	shape, data []int
	was         [2][]int
}

func guard(a impl.Array) guarded {
	var g guarded
	g.array.Shape, g.shape = withSpare(a.Shape)
	g.array.Data, g.data = withSpare(a.Data)
	g.was = [2][]int{slices.Clone(g.shape), slices.Clone(g.data)}
	return g
}

func (g guarded) check(t *testing.T) {
	t.Helper()
	if !slices.Equal(g.shape, g.was[0]) || !slices.Equal(g.data, g.was[1]) {
		t.Error("written into:", g.was, g.shape, g.data)
	}
}

// scribble writes over a list and all the room behind it.
func scribble(list []int) {
	for i := range list[:cap(list)] {
		list[:cap(list)][i] = 987654
	}
	_ = append(list, 987655, 987656)
}

func TestArraysWriteIntoNothing(t *testing.T) {
	list := everyWrongArray()
	for _, shape := range someShapes() {
		list = append(list, numberedArray(shape))
	}
	for _, a := range list {
		g, h := guard(a), guard(a)
		index, all := withSpare(make([]int, len(a.Shape)))
		was := slices.Clone(all)
		impl.ArrayOk(g.array)
		impl.ArraySame(g.array, h.array)
		impl.ArraySame(g.array, g.array)
		impl.VectorOf(g.array.Data)
		impl.NumAt(g.array, index)
		impl.Rows(g.array)
		g.check(t)
		h.check(t)
		if !slices.Equal(all, was) {
			t.Error("an index is written into:", was, all)
		}
	}
}

func TestRowsAreNewMemory(t *testing.T) {
	for _, shape := range someShapes() {
		if len(shape) == 0 {
			continue
		}
		g := guard(numberedArray(shape))
		want := wantedRows(copied(g.array))
		for i := range want {
			rows := impl.Rows(g.array)
			scribble(rows[i].Shape)
			wantOtherRows(t, rows, want, i)
			g.check(t)
			rows = impl.Rows(g.array)
			scribble(rows[i].Data)
			wantOtherRows(t, rows, want, i)
			if !slices.Equal(rows[i].Shape, want[i].Shape) {
				t.Error("Shape and Data of one row share memory:", shape)
			}
			g.check(t)
		}
		wantRows(t, g.array, want)
	}
}

func wantOtherRows(t *testing.T, rows []impl.Array, want []impl.Array, but int) {
	t.Helper()
	for i, row := range rows {
		if i != but && !alike(row, want[i]) {
			t.Error("a write into row", but, "turns row", i, "into", row)
		}
	}
}

// What is told stays as it was when the array is written over later, or the
// rows of another answer are.
func TestRowsKeepTheirNumbers(t *testing.T) {
	a := numberedArray([]int{3, 4})
	want := wantedRows(copied(a))
	first, second := impl.Rows(a), impl.Rows(a)
	scribble(a.Data)
	scribble(a.Shape)
	scribble(first[1].Data)
	wantOtherRows(t, first, want, 1)
	wantOtherRows(t, second, want, -1)
}

func TestMadeArraysAreNewMemory(t *testing.T) {
	for _, long := range []int{0, 1, 2, 5, 299, 300} {
		list, all := withSpare(numbered(long))
		was := slices.Clone(all)
		first, _ := impl.VectorOf(list)
		second, _ := impl.VectorOf(list)
		scribble(first.Data)
		scribble(first.Shape)
		if !slices.Equal(all, was) || !alike(second, impl.Array{Shape: []int{long}, Data: was[:long]}) {
			t.Error("a vector shares memory with its list, or with another one:", all, second)
		}
		scribble(all)
		if !alike(second, impl.Array{Shape: []int{long}, Data: was[:long]}) {
			t.Error("a vector is turned by its list:", second)
		}
	}
	first, _ := impl.ScalarOf(7)
	second, _ := impl.ScalarOf(7)
	scribble(first.Data)
	scribble(first.Shape)
	if !alike(second, impl.Array{Data: []int{7}}) {
		t.Error("two scalars share memory:", second)
	}
}
