package tests

import (
	"math"
	"slices"
	"testing"

	"loop.example/g00182/impl"
)

func live(from int, long int) impl.Cell { return impl.Cell{From: from, Long: long, Live: true} }

func cellsOf(list ...impl.Cell) []impl.Cell { return list }

func sameHeap(a impl.Heap, b impl.Heap) bool {
	return slices.Equal(a.Words, b.Words) && a.Top == b.Top && slices.Equal(a.Cells, b.Cells)
}

func copiedHeap(h impl.Heap) impl.Heap {
	return impl.Heap{Words: slices.Clone(h.Words), Top: h.Top, Cells: slices.Clone(h.Cells)}
}

// wantedHeapOk goes word by word, and so adds no two numbers that may leave 64
// bits.
func wantedHeapOk(h impl.Heap) bool {
	if len(h.Words) > 6000 || h.Top < 0 || h.Top > len(h.Words) || len(h.Cells) > 200 {
		return false
	}
	taken := make([]bool, h.Top)
	for _, c := range h.Cells {
		if !c.Live && (c.From != 0 || c.Long != 0) || c.Live && (c.From < 0 || c.Long < 1) {
			return false
		}
		word := c.From
		for range c.Long {
			if word >= h.Top || taken[word] {
				return false
			}
			taken[word] = true
			word++
		}
	}
	return true
}

// wantedOwners has for each word below Top of a right heap the handle that has
// it, or -1.
func wantedOwners(h impl.Heap) []int {
	owners := slices.Repeat([]int{-1}, h.Top)
	for i, c := range h.Cells {
		for word := range c.Long {
			owners[c.From+word] = i
		}
	}
	return owners
}

// wantedPacked takes the words of a right heap one by one, each to the end of
// what has been taken.
func wantedPacked(h impl.Heap) impl.Heap {
	p := impl.Heap{Words: make([]int, len(h.Words)), Cells: make([]impl.Cell, len(h.Cells))}
	for word, i := range wantedOwners(h) {
		if i < 0 {
			continue
		}
		if !p.Cells[i].Live {
			p.Cells[i] = live(p.Top, 0)
		}
		p.Words[p.Top] = h.Words[word]
		p.Cells[i].Long++
		p.Top++
	}
	return p
}

func wantedUsed(h impl.Heap) int {
	used := 0
	for _, i := range wantedOwners(h) {
		if i >= 0 {
			used++
		}
	}
	return used
}

func wantPack(t *testing.T, h impl.Heap, want impl.Heap, ok bool) {
	t.Helper()
	if got, done := impl.HeapPack(h); done != ok || !sameHeap(got, want) {
		t.Errorf("HeapPack(%v) = %v, %v; want %v, %v", h, got, done, want, ok)
	}
}

func wantUsed(t *testing.T, h impl.Heap, want int) {
	t.Helper()
	if got := impl.HeapUsed(h); got != want {
		t.Errorf("HeapUsed(%v) = %d; want %d", h, got, want)
	}
}

// handlesToTry has all handles of a heap, and some that are none.
func handlesToTry(h impl.Heap) []int {
	list := []int{math.MinInt, -len(h.Cells), -2, -1}
	for i := range len(h.Cells) + 2 {
		list = append(list, i)
	}
	return append(list, 199, 200, 201, 1<<32, math.MaxInt)
}

// wantHeapAsModel asks for all that a heap tells, right or not, and tells which.
func wantHeapAsModel(t *testing.T, h impl.Heap, arrays ...impl.Array) bool {
	t.Helper()
	ok := wantedHeapOk(h)
	if impl.HeapOk(h) != ok {
		t.Errorf("HeapOk(%v) is not %v", h, ok)
	}
	packed, used := impl.Heap{}, -1
	if ok {
		packed, used = wantedPacked(h), wantedUsed(h)
	}
	wantPack(t, h, packed, ok)
	wantUsed(t, h, used)
	for _, i := range handlesToTry(h) {
		wantGetAsModel(t, h, i)
		wantDropAsModel(t, h, i)
	}
	for _, a := range arrays {
		wantPutAsModel(t, h, a)
	}
	return ok
}

func wantHeapOk(t *testing.T, want bool, h impl.Heap) {
	t.Helper()
	if impl.HeapOk(h) != want || wantHeapAsModel(t, h, scalar(1)) != want {
		t.Errorf("HeapOk(%v) is not %v", h, want)
	}
}

func wantNoHeap(t *testing.T, list ...impl.Heap) {
	t.Helper()
	for _, h := range list {
		wantHeapOk(t, false, h)
		wantPack(t, h, impl.Heap{}, false)
		wantUsed(t, h, -1)
		wantGet(t, h, 0, impl.Array{}, false)
		wantDrop(t, h, 0, impl.Heap{}, false)
		wantPut(t, h, scalar(1), impl.Heap{}, -1, false)
	}
}

func TestHeapNew(t *testing.T) {
	for room := range 6001 {
		h, ok := impl.HeapNew(room)
		if !ok || !sameHeap(h, impl.Heap{Words: make([]int, room)}) {
			t.Fatalf("HeapNew(%d) = %v, %v", room, h, ok)
		}
		if room%100 == 0 && (!impl.HeapOk(h) || impl.HeapUsed(h) != 0) {
			t.Error("a new heap is not right, or in use:", room)
		}
	}
	for _, room := range []int{6001, 6002, 1 << 32, math.MaxInt, -1, -2, -6000, -1 << 32, math.MinInt} {
		if h, ok := impl.HeapNew(room); ok || !sameHeap(h, impl.Heap{}) {
			t.Errorf("HeapNew(%d) = %v, %v; want zero, false", room, h, ok)
		}
	}
	if impl.MaxRoom != 6000 || impl.MaxCells != 200 {
		t.Error("the limits are", impl.MaxRoom, impl.MaxCells)
	}
}

func TestHeapOkOfWordsAndTop(t *testing.T) {
	for _, room := range []int{0, 1, 2, 3, 100, 5999, 6000} {
		words := numbered(room)
		for _, at := range []int{0, 1, room / 2, room - 1, room} {
			if at >= 0 && at <= room {
				wantHeapOk(t, true, impl.Heap{Words: words, Top: at})
			}
		}
		for _, at := range []int{-1, -2, -room - 1, room + 1, room + 2, 6001, 1 << 32, math.MinInt, math.MaxInt} {
			wantNoHeap(t, impl.Heap{Words: words, Top: at})
		}
	}
	for _, room := range []int{6001, 6002, 7000} {
		words := make([]int, room)
		wantNoHeap(t, impl.Heap{Words: words}, impl.Heap{Words: words, Top: 2, Cells: cellsOf(live(0, 2))}, impl.Heap{Words: words, Top: 6000}, impl.Heap{Words: words, Top: room})
	}
	words := numbered(6000)
	wantHeapOk(t, true, impl.Heap{Words: words, Top: 6000, Cells: cellsOf(live(0, 6000))})
	wantHeapOk(t, true, impl.Heap{Words: words, Top: 6000, Cells: cellsOf(live(3000, 3000), live(0, 3000))})
	wantHeapOk(t, true, impl.Heap{Words: words, Top: 6000, Cells: cellsOf(live(5999, 1))})
	wantNoHeap(t, impl.Heap{Words: words, Top: 6000, Cells: cellsOf(live(5999, 2))}, impl.Heap{Words: words, Top: 5999, Cells: cellsOf(live(5999, 1))},
		impl.Heap{Words: words, Top: 6000, Cells: cellsOf(live(0, 6001))}, impl.Heap{Words: words, Top: 6000, Cells: cellsOf(live(6000, 1))})
}

// What the words themselves are never matters to a heap.
func TestHeapOkOfAnyNumbers(t *testing.T) {
	for _, x := range append(rightNumbers(), wrongNumbers()...) {
		words := []int{x, x, x, x, x}
		h := impl.Heap{Words: words, Top: 4, Cells: cellsOf(live(3, 1), impl.Cell{}, live(1, 1))}
		wantHeapOk(t, true, h)
		wantPack(t, h, impl.Heap{Words: []int{x, x, 0, 0, 0}, Top: 2, Cells: cellsOf(live(1, 1), impl.Cell{}, live(0, 1))}, true)
	}
}

func manyCells(count int, c impl.Cell) []impl.Cell { return slices.Repeat(cellsOf(c), count) }

// scalarCells has that many cells of two words each, the last ones first.
func scalarCells(count int) []impl.Cell {
	var list []impl.Cell
	for i := range count {
		list = append(list, live(2*(count-1-i), 2))
	}
	return list
}

func TestHeapOkOfHowManyCells(t *testing.T) {
	words := numbered(500)
	for _, count := range []int{0, 1, 2, 199, 200} {
		wantHeapOk(t, true, impl.Heap{Cells: manyCells(count, impl.Cell{})})
		wantHeapOk(t, true, impl.Heap{Words: words, Top: 500, Cells: manyCells(count, impl.Cell{})})
		wantHeapOk(t, true, impl.Heap{Words: words, Top: 2 * count, Cells: scalarCells(count)})
		wantHeapOk(t, true, impl.Heap{Words: words, Top: 500, Cells: scalarCells(count)})
	}
	for _, count := range []int{201, 202, 250} {
		wantNoHeap(t, impl.Heap{Cells: manyCells(count, impl.Cell{})}, impl.Heap{Words: words, Top: 500, Cells: manyCells(count, impl.Cell{})},
			impl.Heap{Words: words, Top: 500, Cells: scalarCells(count)}, impl.Heap{Words: words, Top: 500, Cells: append(manyCells(count-1, impl.Cell{}), live(0, 2))})
	}
}

// farNumbers come to small ones when two of them are added.
func farNumbers() []int {
	return []int{1 << 62, 1<<62 + 1, -1 << 62, 1 << 32, -1 << 32, math.MaxInt, math.MaxInt - 1, math.MaxInt - 4, math.MinInt, math.MinInt + 1, math.MinInt + 4}
}

func TestHeapOkOfCellsThatAreNotLive(t *testing.T) {
	words := numbered(6)
	for _, x := range append([]int{1, 2, -1, 6, -6}, farNumbers()...) {
		for _, c := range []impl.Cell{{From: x}, {Long: x}, {From: x, Long: x}, {From: x, Long: -x}} {
			for i := range 3 {
				cells := cellsOf(live(0, 2), impl.Cell{}, live(4, 2))
				cells[i] = c
				wantNoHeap(t, impl.Heap{Words: words, Top: 6, Cells: cells})
			}
			wantNoHeap(t, impl.Heap{Words: words, Top: 6, Cells: append(manyCells(199, impl.Cell{}), c)})
		}
	}
	wantHeapOk(t, true, impl.Heap{Words: words, Top: 6, Cells: cellsOf(live(0, 2), impl.Cell{}, live(4, 2))})
}

func TestHeapOkOfOneCell(t *testing.T) {
	words := numbered(9)
	for _, c := range []impl.Cell{live(0, 1), live(0, 7), live(6, 1), live(5, 2), live(3, 2), live(1, 6)} {
		wantHeapOk(t, true, impl.Heap{Words: words, Top: 7, Cells: cellsOf(c)})
		wantHeapOk(t, true, impl.Heap{Words: words, Top: 7, Cells: cellsOf(impl.Cell{}, c)})
	}
	for _, c := range []impl.Cell{live(0, 0), live(3, 0), live(7, 0), live(0, -1), live(3, -1), live(7, -2), live(-1, 1), live(-1, 2), live(-1, 8), live(-3, 3), live(0, 8), live(1, 7), live(6, 2), live(7, 1), live(8, 1), live(9, 1), live(9, -5)} {
		wantNoHeap(t, impl.Heap{Words: words, Top: 7, Cells: cellsOf(c)}, impl.Heap{Words: words, Top: 7, Cells: cellsOf(impl.Cell{}, c)})
	}
	for _, x := range farNumbers() {
		for _, y := range append([]int{0, 1, 2, 7, -1}, farNumbers()...) {
			wantNoHeap(t, impl.Heap{Words: words, Top: 7, Cells: cellsOf(live(x, y))}, impl.Heap{Words: words, Top: 7, Cells: cellsOf(live(y, x))},
				impl.Heap{Words: words, Top: 7, Cells: cellsOf(live(3, 1), live(x, y))}, impl.Heap{Words: words, Top: 7, Cells: cellsOf(live(y, x), live(3, 1))})
		}
	}
}

func TestHeapOkOfTwoCells(t *testing.T) {
	words := numbered(9)
	ask := func(want bool, a impl.Cell, b impl.Cell) {
		t.Helper()
		for _, cells := range [][]impl.Cell{{a, b}, {b, a}, {{}, a, {}, b}, {b, {}, {}, a}} {
			wantHeapOk(t, want, impl.Heap{Words: words, Top: 8, Cells: cells})
		}
	}
	ask(true, live(0, 1), live(1, 1))
	ask(true, live(0, 4), live(4, 4))
	ask(true, live(0, 2), live(5, 3))
	ask(true, live(1, 6), live(7, 1))
	ask(false, live(0, 2), live(1, 1))
	ask(false, live(0, 5), live(4, 4))
	ask(false, live(0, 8), live(3, 1))
	ask(false, live(0, 8), live(7, 1))
	ask(false, live(0, 8), live(0, 1))
	ask(false, live(2, 3), live(2, 3))
	ask(false, live(2, 3), live(2, 4))
	ask(false, live(2, 3), live(1, 4))
	ask(false, live(0, 4), live(4, 5))
	ask(false, live(-1, 2), live(1, 1))
	for _, among := range []impl.Cell{live(1, 1), live(3, 3), live(5, 1), live(4, 4)} {
		for _, cells := range [][]impl.Cell{{live(0, 2), live(3, 2), live(5, 3), among}, {among, live(5, 3), live(3, 2), live(0, 2)}, {live(3, 2), among, live(0, 2), live(5, 3)}} {
			wantNoHeap(t, impl.Heap{Words: words, Top: 8, Cells: cells})
		}
	}
}

// Few words, at each Top, with up to two cells of all small numbers.
func TestSmallHeaps(t *testing.T) {
	cells := []impl.Cell{{}, {From: 1}, {Long: 1}, {Long: -1}, {From: -1}, {From: 1, Long: -1}}
	for from := -1; from <= 4; from++ {
		for long := range 5 {
			cells = append(cells, live(from, long))
		}
	}
	right, wrong := 0, 0
	ask := func(h impl.Heap) {
		if wantHeapAsModel(t, h, scalar(5), vector()) {
			right++
		} else {
			wrong++
		}
	}
	for _, words := range [][]int{{}, {0}, {0, 7, 0}, {0, 7, 0, 8}, {1, 1, 5, 9}, {1, 0, 1, 0, 3}, {1, 2, 0, 4, 0}} {
		for at := -1; at <= len(words)+1; at++ {
			ask(impl.Heap{Words: words, Top: at})
			for _, a := range cells {
				ask(impl.Heap{Words: words, Top: at, Cells: cellsOf(a)})
				for _, b := range cells {
					ask(impl.Heap{Words: words, Top: at, Cells: cellsOf(a, b)})
				}
			}
		}
	}
	if right < 500 || wrong < 5000 {
		t.Error("the test itself hardly asks for both:", right, wrong)
	}
}

func TestHeapUsed(t *testing.T) {
	words := numbered(12)
	wantUsed(t, impl.Heap{}, 0)
	wantUsed(t, impl.Heap{Words: words}, 0)
	wantUsed(t, impl.Heap{Words: words, Top: 12}, 0)
	wantUsed(t, impl.Heap{Words: words, Top: 12, Cells: manyCells(9, impl.Cell{})}, 0)
	wantUsed(t, impl.Heap{Words: words, Top: 12, Cells: cellsOf(live(0, 12))}, 12)
	wantUsed(t, impl.Heap{Words: words, Top: 12, Cells: cellsOf(live(8, 3), impl.Cell{}, live(1, 2), live(4, 1))}, 6)
	wantUsed(t, impl.Heap{Words: make([]int, 6000), Top: 6000, Cells: cellsOf(live(0, 2999), live(2999, 3001))}, 6000)
	wantUsed(t, impl.Heap{Top: 1}, -1)
	wantUsed(t, impl.Heap{Words: words, Top: 12, Cells: cellsOf(live(0, 2), live(1, 2))}, -1)
	wantUsed(t, impl.Heap{Words: words, Top: 12, Cells: cellsOf(live(0, 2), impl.Cell{Long: 2})}, -1)
}

func TestHeapPack(t *testing.T) {
	words := []int{10, 11, 12, 13, 14, 15, 16, 17, 18, 19}
	with := func(at int, cells ...impl.Cell) impl.Heap { return impl.Heap{Words: words, Top: at, Cells: cells} }
	noughts := make([]int, 10)
	wantPack(t, impl.Heap{}, impl.Heap{}, true)
	wantPack(t, with(0), impl.Heap{Words: noughts}, true)
	wantPack(t, with(10), impl.Heap{Words: noughts}, true)
	wantPack(t, with(7, impl.Cell{}, impl.Cell{}), impl.Heap{Words: noughts, Cells: make([]impl.Cell, 2)}, true)
	wantPack(t, with(10, live(0, 10)), with(10, live(0, 10)), true)
	for _, c := range []struct {
		at    int
		cells []impl.Cell
		words []int
		want  []impl.Cell
	}{
		{8, cellsOf(live(0, 2), live(2, 3), live(5, 3)), []int{10, 11, 12, 13, 14, 15, 16, 17, 0, 0}, cellsOf(live(0, 2), live(2, 3), live(5, 3))},
		{8, cellsOf(impl.Cell{}, live(2, 3), live(5, 3)), []int{12, 13, 14, 15, 16, 17, 0, 0, 0, 0}, cellsOf(impl.Cell{}, live(0, 3), live(3, 3))},
		{8, cellsOf(live(0, 2), impl.Cell{}, live(5, 3)), []int{10, 11, 15, 16, 17, 0, 0, 0, 0, 0}, cellsOf(live(0, 2), impl.Cell{}, live(2, 3))},
		{8, cellsOf(live(0, 2), live(2, 3), impl.Cell{}), []int{10, 11, 12, 13, 14, 0, 0, 0, 0, 0}, cellsOf(live(0, 2), live(2, 3), impl.Cell{})},
		{8, cellsOf(live(5, 3), live(0, 2), live(2, 3)), []int{10, 11, 12, 13, 14, 15, 16, 17, 0, 0}, cellsOf(live(5, 3), live(0, 2), live(2, 3))},
		{10, cellsOf(live(9, 1), impl.Cell{}, live(3, 2), live(6, 2)), []int{13, 14, 16, 17, 19, 0, 0, 0, 0, 0}, cellsOf(live(4, 1), impl.Cell{}, live(0, 2), live(2, 2))},
		{10, cellsOf(live(1, 1), live(8, 1), live(3, 1), live(6, 1)), []int{11, 13, 16, 18, 0, 0, 0, 0, 0, 0}, cellsOf(live(0, 1), live(3, 1), live(1, 1), live(2, 1))},
		{9, cellsOf(live(1, 8)), []int{11, 12, 13, 14, 15, 16, 17, 18, 0, 0}, cellsOf(live(0, 8))},
	} {
		last := slices.MaxFunc(c.want, func(a, b impl.Cell) int { return a.From + a.Long - b.From - b.Long })
		want := impl.Heap{Words: c.words, Top: last.From + last.Long, Cells: c.want}
		wantPack(t, with(c.at, c.cells...), want, true)
		wantPack(t, want, want, true)
		wantHeapAsModel(t, with(c.at, c.cells...), scalar(1), vector(1, 2, 3))
	}
	wantNoHeap(t, with(11), with(-1), with(2, live(1, 2)), with(10, live(1, 2), live(2, 2)))
}

// orders has all orders of that many numbers.
func orders(count int) [][]int {
	if count == 0 {
		return [][]int{{}}
	}
	var list [][]int
	for _, order := range orders(count - 1) {
		for i := range count {
			list = append(list, slices.Insert(slices.Clone(order), i, count-1))
		}
	}
	return list
}

// Cells in each order, with each of them not Live.
func TestHeapPackInEachOrder(t *testing.T) {
	words := []int{90, 0, 7, 91, 1, 2, 5, 6, 0, 8, 92, 93, 2, 1, 1, 9, 94, 95}
	places := cellsOf(live(1, 2), live(4, 4), live(8, 2), live(12, 4))
	arrays := []impl.Array{scalar(7), vector(5, 6), scalar(8), inShape([]int{1, 1}, 9)}
	for _, order := range orders(4) {
		for without := range 16 {
			h := impl.Heap{Words: words, Top: 17, Cells: make([]impl.Cell, 4)}
			for i, from := range order {
				if without>>i&1 == 0 {
					h.Cells[i] = places[from]
				}
			}
			wantHeapOk(t, true, h)
			wantHeapAsModel(t, h, vector(), vector(1, 2), numberedArray([]int{2, 6}), numberedArray([]int{2, 7}))
			wantPackedAlike(t, h)
			p, _ := impl.HeapPack(h)
			for i, from := range order {
				if without>>i&1 == 0 {
					wantGet(t, h, i, arrays[from], true)
					wantGet(t, p, i, arrays[from], true)
				}
			}
		}
	}
}

// wantPackedAlike asks for promise 13: packed, a heap has the same arrays under
// the same handles, and nothing else.
func wantPackedAlike(t *testing.T, h impl.Heap) {
	t.Helper()
	p, ok := impl.HeapPack(h)
	if !ok || !impl.HeapOk(p) || len(p.Words) != len(h.Words) || len(p.Cells) != len(h.Cells) {
		t.Fatalf("HeapPack(%v) = %v, %v", h, p, ok)
	}
	if used := impl.HeapUsed(h); p.Top != used || impl.HeapUsed(p) != used {
		t.Errorf("packed, %v has another number of words than %d: %v", h, used, p)
	}
	for _, x := range p.Words[p.Top:] {
		if x != 0 {
			t.Errorf("what is free in %v is not nought: %v", h, p)
		}
	}
	for _, i := range handlesToTry(h) {
		a, is := impl.HeapGet(h, i)
		wantGet(t, p, i, a, is)
	}
	for i, c := range h.Cells {
		if p.Cells[i].Live != c.Live || p.Cells[i].Long != c.Long || !slices.Equal(wordsAt(p, i), wordsAt(h, i)) {
			t.Errorf("packed, %v has other words under %d: %v", h, i, p)
		}
	}
	wantPack(t, p, p, true)
}

func wordsAt(h impl.Heap, i int) []int {
	return h.Words[h.Cells[i].From:][:h.Cells[i].Long]
}

// An empty list and nil are the same value.
func TestHeapsOfEmptyLists(t *testing.T) {
	for _, h := range []impl.Heap{{}, {Words: []int{}}, {Cells: []impl.Cell{}}, {Words: []int{}, Cells: []impl.Cell{}}, {Words: make([]int, 0, 5), Cells: make([]impl.Cell, 0, 5)}} {
		wantHeapOk(t, true, h)
		wantPack(t, h, impl.Heap{}, true)
		wantUsed(t, h, 0)
		wantPut(t, h, scalar(1), impl.Heap{}, -1, false)
		wantPut(t, h, impl.Array{}, impl.Heap{}, -1, false)
		wantDrop(t, h, 0, impl.Heap{}, false)
		wantGet(t, h, 0, impl.Array{}, false)
		h.Top = 1
		wantNoHeap(t, h)
		h.Top = -1
		wantNoHeap(t, h)
	}
	two := []int{5, 5}
	wantPut(t, impl.Heap{Words: two, Cells: []impl.Cell{}}, impl.Array{Shape: []int{}, Data: []int{3}}, impl.Heap{Words: []int{0, 3}, Top: 2, Cells: cellsOf(live(0, 2))}, 0, true)
	wantPut(t, impl.Heap{Words: two}, impl.Array{Shape: []int{0}, Data: []int{}}, impl.Heap{Words: []int{1, 0}, Top: 2, Cells: cellsOf(live(0, 2))}, 0, true)
	wantPut(t, impl.Heap{Words: two}, impl.Array{Shape: []int{0}}, impl.Heap{Words: []int{1, 0}, Top: 2, Cells: cellsOf(live(0, 2))}, 0, true)
}
