package tests

import (
	"math"
	"math/big"
	"slices"
	"testing"

	"loop.example/g00182/impl"
)

// edgeLengths holds numbers that a shape may have and may not have: nought,
// factors whose product meets MaxSize or just passes it, and numbers whose
// product leaves 64 bits, some of them with a product that wraps to a small one.
func edgeLengths() []int {
	return []int{0, 1, 2, 3, 7, 10, 17, 18, 43, 100, 101, 150, 151, 299, 300, 301,
		-1, -300, 1 << 21, 1 << 32, -1 << 32, 1 << 62, math.MaxInt, math.MinInt}
}

// everyList calls each with all lists of that many numbers of choice; the
// list is the same memory each time.
func everyList(choice []int, long int, each func(list []int)) {
	list := make([]int, long)
	var fill func(i int)
	fill = func(i int) {
		if i == long {
			each(list)
			return
		}
		for _, x := range choice {
			list[i] = x
			fill(i + 1)
		}
	}
	fill(0)
}

// wantedSize reckons with numbers of any length, so that no wrap-round can
// make a product small.
func wantedSize(shape []int) int {
	size := big.NewInt(1)
	for _, n := range shape {
		if n < 0 || n > 300 {
			return -1
		}
		size.Mul(size, big.NewInt(int64(n)))
	}
	if len(shape) > 3 || size.Cmp(big.NewInt(300)) > 0 {
		return -1
	}
	return int(size.Int64())
}

func wantSize(t *testing.T, shape []int, want int) {
	t.Helper()
	if got := impl.SizeOf(shape); got != want {
		t.Errorf("SizeOf(%v) = %d; want %d", shape, got, want)
	}
	if got := impl.ShapeOk(shape); got != (want >= 0) {
		t.Errorf("ShapeOk(%v) = %v, but its size is %d", shape, got, want)
	}
}

func wantPlace(t *testing.T, shape []int, index []int, want int) {
	t.Helper()
	if got := impl.PlaceOf(shape, index); got != want {
		t.Errorf("PlaceOf(%v, %v) = %d; want %d", shape, index, got, want)
	}
}

func wantIndex(t *testing.T, shape []int, place int, want []int) {
	t.Helper()
	if got := impl.IndexOf(shape, place); !slices.Equal(got, want) {
		t.Errorf("IndexOf(%v, %d) = %v; want %v", shape, place, got, want)
	}
}

// someShapes has shapes of each rank, with and without noughts, up to the
// greatest size.
func someShapes() [][]int {
	list := [][]int{{}, {0}, {1}, {2}, {7}, {299}, {300}}
	for _, a := range []int{0, 1, 2, 3, 5, 10, 17} {
		for _, b := range []int{0, 1, 2, 4, 17} {
			list = append(list, []int{a, b}, []int{a, b, 1}, []int{1, a, b})
		}
	}
	return append(list, []int{1, 300}, []int{300, 1}, []int{150, 2}, []int{2, 150}, []int{17, 17},
		[]int{2, 3, 4}, []int{4, 3, 2}, []int{10, 10, 3}, []int{3, 10, 10}, []int{1, 1, 300},
		[]int{300, 1, 1}, []int{1, 300, 1}, []int{300, 300, 0}, []int{300, 0, 300}, []int{0, 300, 300})
}

func TestShapeLimits(t *testing.T) {
	if impl.MaxRank != 3 || impl.MaxSize != 300 {
		t.Error("the limits are", impl.MaxRank, impl.MaxSize)
	}
}

func TestSizeOrdinary(t *testing.T) {
	wantSize(t, []int{5}, 5)
	wantSize(t, []int{2, 3}, 6)
	wantSize(t, []int{2, 3, 4}, 24)
	wantSize(t, nil, 1)
	wantSize(t, []int{}, 1)
}

func TestSizeAtTheLimits(t *testing.T) {
	wantSize(t, []int{300}, 300)
	wantSize(t, []int{301}, -1)
	wantSize(t, []int{15, 20}, 300)
	wantSize(t, []int{7, 43}, -1)
	wantSize(t, []int{10, 10, 3}, 300)
	wantSize(t, []int{300, 1, 1}, 300)
	wantSize(t, []int{300, 2}, -1)
	wantSize(t, []int{300, 300, 300}, -1)
	wantSize(t, []int{1, 1, 1}, 1)
	wantSize(t, []int{1, 1, 1, 1}, -1)
	wantSize(t, []int{0, 0, 0, 0}, -1)
	wantSize(t, make([]int, 1000), -1)
}

func TestSizeWithNought(t *testing.T) {
	for _, shape := range [][]int{{0}, {0, 0, 0}, {300, 300, 0}, {300, 0, 300}, {0, 300, 300}, {0, 300}, {300, 0}} {
		wantSize(t, shape, 0)
	}
	for _, shape := range [][]int{{301, 0}, {0, 301}, {-1, 0}, {0, -1}, {0, 0, -1}, {0, math.MaxInt}, {math.MinInt, 0}} {
		wantSize(t, shape, -1)
	}
}

func TestSizeWrong(t *testing.T) {
	for _, shape := range [][]int{{-1}, {-2, -3}, {2, -1}, {-1, 2, -1}, {math.MinInt}, {math.MaxInt},
		{1 << 32, 1 << 32}, {1 << 62, 4}, {1 << 21, 1 << 21, 1 << 22}, {math.MaxInt, math.MaxInt}, {math.MinInt, math.MinInt, 2}} {
		wantSize(t, shape, -1)
	}
}

func TestSizeAgainstBigNumbers(t *testing.T) {
	for long := range 4 {
		everyList(edgeLengths(), long, func(shape []int) { wantSize(t, shape, wantedSize(shape)) })
	}
	for long := 4; long <= 6; long++ {
		everyList([]int{0, 1, 2, -1}, long, func(shape []int) { wantSize(t, shape, -1) })
	}
	for a := range 302 {
		for b := range 302 {
			wantSize(t, []int{a, b}, wantedSize([]int{a, b}))
		}
	}
}

func TestPlaceOrdinary(t *testing.T) {
	wantPlace(t, nil, nil, 0)
	wantPlace(t, []int{}, []int{}, 0)
	wantPlace(t, []int{5}, []int{3}, 3)
	wantPlace(t, []int{2, 3}, []int{0, 2}, 2)
	wantPlace(t, []int{2, 3}, []int{1, 0}, 3)
	wantPlace(t, []int{2, 3}, []int{1, 2}, 5)
	wantPlace(t, []int{2, 3, 4}, []int{1, 2, 3}, 23)
	wantPlace(t, []int{2, 3, 4}, []int{1, 0, 2}, 14)
	wantPlace(t, []int{300}, []int{299}, 299)
	wantPlace(t, []int{10, 10, 3}, []int{9, 9, 2}, 299)
}

func TestPlaceOfAnotherLength(t *testing.T) {
	for _, shape := range someShapes() {
		for long := range 6 {
			if long != len(shape) {
				wantPlace(t, shape, make([]int, long), -1)
			}
		}
	}
	wantPlace(t, nil, []int{0}, -1)
	wantPlace(t, []int{1}, nil, -1)
}

func TestPlaceOfNoShape(t *testing.T) {
	for _, shape := range [][]int{{-1}, {301}, {300, 2}, {17, 18}, {1, 1, 1, 1}, {1, -1, 1}, {1 << 32, 1 << 32}, {math.MaxInt}, {math.MinInt}} {
		wantPlace(t, shape, make([]int, len(shape)), -1)
		wantIndex(t, shape, 0, nil)
		wantIndex(t, shape, 1, nil)
		wantIndex(t, shape, -1, nil)
	}
}

// Each number of an index in turn is out of its bounds, the others are nought.
func TestPlaceOutOfBounds(t *testing.T) {
	for _, shape := range someShapes() {
		for i, n := range shape {
			for _, x := range []int{-1, -n - 1, n, n + 1, 2*n + 1, 301, 1 << 32, 1 << 61, 1 << 62, math.MaxInt, math.MinInt} {
				index := make([]int, len(shape))
				index[i] = x
				wantPlace(t, shape, index, -1)
			}
		}
	}
}

// These are out of their bounds, but would reckon to a place of the shape:
// one number makes up for the other, or what comes wraps round.
func TestPlaceMadeUpFor(t *testing.T) {
	rows := [][2][]int{
		{{2, 3}, {0, 3}}, {{2, 3}, {1, -1}}, {{2, 3}, {-1, 3}}, {{2, 3}, {2, -1}}, {{2, 3}, {3, -4}},
		{{2, 4}, {1 << 62, 0}}, {{2, 4}, {1 << 62, 1}}, {{2, 4}, {-1 << 62, 3}}, {{2, 2}, {math.MinInt, 1}},
		{{2, 2, 2}, {1 << 62, 0, 0}}, {{2, 2, 2}, {1 << 61, 1 << 62, 1}}, {{2, 2, 2}, {0, math.MinInt, 1}},
		{{3, 4, 4}, {1 << 60, 2, 2}}, {{2, 3, 4}, {0, 0, 4}}, {{2, 3, 4}, {0, 3, 0}}, {{2, 3, 4}, {0, 1, -4}},
		{{2, 0}, {0, 0}}, {{0, 2}, {0, 0}}, {{0}, {0}}, {{0}, {-1}}, {{2, 0, 3}, {1, 0, 2}}, {{300, 300, 0}, {1, 1, 0}},
	}
	for _, r := range rows {
		wantPlace(t, r[0], r[1], -1)
	}
}

// listedIndexes counts the indexes of a shape off one by one, the last number
// fastest, without reckoning a place.
func listedIndexes(shape []int) [][]int {
	list := [][]int{{}}
	for _, n := range shape {
		var longer [][]int
		for _, index := range list {
			for x := range n {
				longer = append(longer, append(slices.Clone(index), x))
			}
		}
		list = longer
	}
	return list
}

func TestEveryPlaceThereAndBack(t *testing.T) {
	for _, shape := range someShapes() {
		list := listedIndexes(shape)
		wantSize(t, shape, len(list))
		for place, index := range list {
			wantPlace(t, shape, index, place)
			wantIndex(t, shape, place, index)
			wantPlace(t, shape, impl.IndexOf(shape, place), place)
		}
	}
}

// Every index of small and of very great numbers is held against the list.
func TestEveryIndexAgainstTheList(t *testing.T) {
	choice := []int{math.MinInt, -1 << 62, -3, -1, 0, 1, 2, 3, 4, 1 << 62, math.MaxInt}
	for _, shape := range [][]int{{}, {3}, {0}, {2, 3}, {4, 2}, {3, 0}, {2, 2, 2}, {1, 3, 4}, {4, 1, 2}, {2, 0, 2}} {
		list := listedIndexes(shape)
		everyList(choice, len(shape), func(index []int) {
			want := slices.IndexFunc(list, func(x []int) bool { return slices.Equal(x, index) })
			wantPlace(t, shape, index, want)
		})
	}
}

func TestIndexOrdinary(t *testing.T) {
	wantIndex(t, []int{5}, 3, []int{3})
	wantIndex(t, []int{2, 3}, 4, []int{1, 1})
	wantIndex(t, []int{2, 3, 4}, 14, []int{1, 0, 2})
	wantIndex(t, nil, 0, nil)
}

func TestIndexOfNoPlace(t *testing.T) {
	for _, shape := range someShapes() {
		size := impl.SizeOf(shape)
		for _, place := range []int{size, size + 1, 2 * size, 301, 1 << 32, math.MaxInt, -1, -size - 1, math.MinInt} {
			wantIndex(t, shape, place, nil)
		}
		if size > 0 && len(shape) > 0 && len(impl.IndexOf(shape, size-1)) != len(shape) {
			t.Error("the last place has no index:", shape)
		}
	}
}

func TestShapeSame(t *testing.T) {
	list := append(someShapes(), []int{-1}, []int{-1, -1}, []int{301}, []int{300, 2}, []int{17, 18}, []int{1, 1, 1, 1},
		[]int{0, 0, 0, 0}, []int{2, -1}, []int{1 << 32, 1 << 32}, []int{math.MaxInt}, []int{math.MinInt}, nil)
	for _, a := range list {
		for _, b := range list {
			want := wantedSize(a) >= 0 && wantedSize(b) >= 0 && slices.Equal(a, b)
			if got := impl.ShapeSame(slices.Clone(a), b); got != want {
				t.Errorf("ShapeSame(%v, %v) = %v", a, b, got)
			}
		}
	}
	for _, r := range [][2][]int{{{2}, {2, 1}}, {{2}, {2, 0}}, {{0}, {}}, {{1}, nil}, {{2, 3}, {3, 2}}, {{0, 2}, {2, 0}}, {{0, 0}, {0, 0, 0}}} {
		if impl.ShapeSame(r[0], r[1]) || impl.ShapeSame(r[1], r[0]) {
			t.Error("not alike, but told so:", r)
		}
	}
}

// withSpare has the list with spare room behind it, and that room as a whole.
func withSpare(list []int) (part []int, all []int) {
	all = append(slices.Clone(list), 71, 72, 73, 74)
	return all[:len(list)], all
}

func TestShapesWriteIntoNothing(t *testing.T) {
	for _, shape := range append(someShapes(), []int{-1}, []int{301, 2}, []int{1, 1, 1, 1}) {
		for _, index := range [][]int{{}, {0}, {0, 0}, {0, 0, 0}, {1, 2, 3}, {-1, 5}} {
			a, allA := withSpare(shape)
			b, allB := withSpare(index)
			impl.ShapeOk(a)
			impl.SizeOf(a)
			impl.PlaceOf(a, b)
			impl.IndexOf(a, 0)
			impl.ShapeSame(a, b)
			if !slices.Equal(allA, append(slices.Clone(shape), 71, 72, 73, 74)) || !slices.Equal(allB, append(slices.Clone(index), 71, 72, 73, 74)) {
				t.Error("written into:", shape, allA, index, allB)
			}
		}
	}
}

func TestIndexIsNewMemory(t *testing.T) {
	shape, all := withSpare([]int{2, 3})
	first := impl.IndexOf(shape, 4)
	first[0], first[1] = 91, 92
	_ = append(first, 93, 94)
	if !slices.Equal(all, []int{2, 3, 71, 72, 73, 74}) {
		t.Error("an answer shares memory with its argument:", all)
	}
	wantIndex(t, shape, 4, []int{1, 1})
	wantPlace(t, shape, []int{1, 1}, 4)
	if !slices.Equal(first, []int{91, 92}) {
		t.Error("two answers share memory:", first)
	}
}

// One list may be given twice.
func TestShapeAndIndexOfOneList(t *testing.T) {
	list := []int{2, 3}
	wantPlace(t, list, list, -1)
	if !impl.ShapeSame(list, list) || impl.ShapeSame(list, list[:1]) {
		t.Error("a list is not alike with itself, or with its beginning")
	}
}
