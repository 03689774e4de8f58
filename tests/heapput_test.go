package tests

import (
	"math"
	"slices"
	"testing"

	"loop.example/g00182/impl"
)

// wordsFor are its rank, its Shape, its Data, right or not.
func wordsFor(a impl.Array) []int {
	return slices.Concat([]int{len(a.Shape)}, a.Shape, a.Data)
}

// arrayIn tries each rank that there is.
func arrayIn(words []int) (impl.Array, bool) {
	for rank := range 4 {
		if words[0] != rank || len(words) <= rank {
			continue
		}
		if a := inShape(words[1:1+rank], words[1+rank:]...); wantedArrayOk(a) {
			return a, true
		}
	}
	return impl.Array{}, false
}

func isHandle(h impl.Heap, i int) bool {
	return wantedHeapOk(h) && i >= 0 && i < len(h.Cells) && h.Cells[i].Live
}

func wantedDropped(h impl.Heap, i int) impl.Heap {
	if !wantedHeapOk(h) {
		return impl.Heap{}
	}
	h = copiedHeap(h)
	if isHandle(h, i) {
		h.Cells[i] = impl.Cell{}
	}
	return h
}

// wantedPut tries the heap as it is, and then packed.
func wantedPut(h impl.Heap, a impl.Array) (impl.Heap, int, bool) {
	if !wantedHeapOk(h) {
		return impl.Heap{}, -1, false
	}
	handle, words := 0, wordsFor(a)
	for handle < len(h.Cells) && h.Cells[handle].Live {
		handle++
	}
	for _, p := range []impl.Heap{copiedHeap(h), wantedPacked(h)} {
		if !impl.ArrayOk(a) || handle == 200 || p.Top+len(words) > len(p.Words) {
			continue
		}
		if handle == len(p.Cells) {
			p.Cells = append(p.Cells, impl.Cell{})
		}
		p.Cells[handle] = live(p.Top, len(words))
		for _, x := range words {
			p.Words[p.Top] = x
			p.Top++
		}
		return p, handle, true
	}
	return h, -1, false
}

func wantGet(t *testing.T, h impl.Heap, i int, want impl.Array, ok bool) {
	t.Helper()
	if got, is := impl.HeapGet(h, i); is != ok || !alike(got, want) {
		t.Errorf("HeapGet(%v, %d) = %v, %v; want %v, %v", h, i, got, is, want, ok)
	}
}

func wantDrop(t *testing.T, h impl.Heap, i int, want impl.Heap, ok bool) {
	t.Helper()
	if got, is := impl.HeapDrop(h, i); is != ok || !sameHeap(got, want) {
		t.Errorf("HeapDrop(%v, %d) = %v, %v; want %v, %v", h, i, got, is, want, ok)
	}
}

func wantPut(t *testing.T, h impl.Heap, a impl.Array, want impl.Heap, handle int, ok bool) {
	t.Helper()
	if got, i, is := impl.HeapPut(h, a); is != ok || i != handle || !sameHeap(got, want) {
		t.Errorf("HeapPut(%v, %v) = %v, %d, %v; want %v, %d, %v", h, a, got, i, is, want, handle, ok)
	}
}

func wantGetAsModel(t *testing.T, h impl.Heap, i int) {
	t.Helper()
	if !isHandle(h, i) {
		wantGet(t, h, i, impl.Array{}, false)
		return
	}
	want, ok := arrayIn(wordsAt(h, i))
	wantGet(t, h, i, want, ok)
}

func wantDropAsModel(t *testing.T, h impl.Heap, i int) {
	t.Helper()
	wantDrop(t, h, i, wantedDropped(h, i), isHandle(h, i))
}

func wantPutAsModel(t *testing.T, h impl.Heap, a impl.Array) bool {
	t.Helper()
	want, handle, ok := wantedPut(h, a)
	wantPut(t, h, a, want, handle, ok)
	return ok
}

// wantNotPut asks that a right heap stays as it was.
func wantNotPut(t *testing.T, h impl.Heap, a impl.Array) {
	t.Helper()
	wantPut(t, h, a, copiedHeap(h), -1, false)
}

// heapWith has these arrays one behind the other, and so many words behind
// them, made here and not by HeapPut.
func heapWith(free int, arrays ...impl.Array) impl.Heap {
	var h impl.Heap
	for _, a := range arrays {
		words := wordsFor(a)
		h.Cells = append(h.Cells, live(len(h.Words), len(words)))
		h.Words = append(h.Words, words...)
	}
	h.Top = len(h.Words)
	for i := range free {
		h.Words = append(h.Words, 70+i)
	}
	return h
}

func without(h impl.Heap, handles ...int) impl.Heap {
	h = copiedHeap(h)
	for _, i := range handles {
		h.Cells[i] = impl.Cell{}
	}
	return h
}

// arraysOfEachRank have from two words up to as many as there are.
func arraysOfEachRank() []impl.Array {
	list := []impl.Array{scalar(-4), scalar(top), scalar(-top)}
	for _, shape := range everyShape() {
		list = append(list, numberedArray(shape))
	}
	return list
}

func TestHeapPutAndGet(t *testing.T) {
	for _, a := range arraysOfEachRank() {
		words := wordsFor(a)
		for _, free := range []int{0, 1, 7} {
			empty, ok := impl.HeapNew(len(words) + free)
			if !ok {
				t.Fatal("the test itself has no heap")
			}
			want := impl.Heap{Words: append(slices.Clone(words), make([]int, free)...), Top: len(words), Cells: cellsOf(live(0, len(words)))}
			wantPut(t, empty, a, want, 0, true)
			wantHeapOk(t, true, want)
			wantGet(t, want, 0, a, true)
			wantUsed(t, want, len(words))
			wantDrop(t, want, 0, impl.Heap{Words: want.Words, Top: len(words), Cells: make([]impl.Cell, 1)}, true)
		}
		for short := 1; short <= len(words); short++ {
			wantNotPut(t, impl.Heap{Words: numbered(len(words) - short)}, a)
		}
	}
}

// All arrays that are put are there, each under its own handle.
func TestHeapPutMany(t *testing.T) {
	list := arraysOfEachRank()
	for turn := range 4 {
		h, _ := impl.HeapNew(6000)
		var there []impl.Array
		for i := range list {
			a := list[(i*7+turn)%len(list)]
			next, handle, ok := impl.HeapPut(h, a)
			wantPutAsModel(t, h, a)
			if !ok {
				break
			}
			if handle != len(there) || next.Top != h.Top+len(wordsFor(a)) || !slices.Equal(next.Words[:h.Top], h.Words[:h.Top]) || impl.HeapUsed(next) != next.Top {
				t.Fatalf("array %d is put under %d, up to %d behind %d", i, handle, next.Top, h.Top)
			}
			h, there = next, append(there, a)
		}
		for i, a := range there {
			wantGet(t, h, i, a, true)
		}
		if len(there) < 10 {
			t.Error("the test itself hardly puts any:", len(there))
		}
	}
}

func TestHeapPutTakesTheFirstFreeCell(t *testing.T) {
	a, b, c, d := scalar(1), vector(2, 3), scalar(4), inShape([]int{1, 2}, 5, 6)
	h := heapWith(9, a, b, c, d)
	for _, x := range []struct {
		handles []int
		want    int
	}{{nil, 4}, {[]int{0}, 0}, {[]int{1}, 1}, {[]int{2}, 2}, {[]int{3}, 3}, {[]int{3, 1}, 1}, {[]int{0, 3}, 0}, {[]int{2, 3}, 2}, {[]int{3, 2, 1, 0}, 0}} {
		some := without(h, x.handles...)
		want := copiedHeap(some)
		if x.want == 4 {
			want.Cells = append(want.Cells, impl.Cell{})
		}
		want.Cells[x.want] = live(h.Top, 2)
		want.Words[h.Top], want.Words[h.Top+1] = 0, 8
		want.Top += 2
		wantPut(t, some, scalar(8), want, x.want, true)
		wantGet(t, want, x.want, scalar(8), true)
		wantHeapAsModel(t, want, arraysOfEachRank()[:30]...)
	}
}

// What stands ahead of Top is not looked at for room, as long as there is some
// behind it; and what is free keeps its words then.
func TestHeapPutPacksOnlyWhereItMust(t *testing.T) {
	h := without(heapWith(3, vector(1, 2, 3), scalar(7), vector(5)), 0)
	wantPut(t, h, scalar(9), impl.Heap{Words: []int{1, 3, 1, 2, 3, 0, 7, 1, 1, 5, 0, 9, 72}, Top: 12, Cells: cellsOf(live(10, 2), live(5, 2), live(7, 3))}, 0, true)
	wantPut(t, h, vector(9), impl.Heap{Words: []int{1, 3, 1, 2, 3, 0, 7, 1, 1, 5, 1, 1, 9}, Top: 13, Cells: cellsOf(live(10, 3), live(5, 2), live(7, 3))}, 0, true)
	wantPut(t, h, vector(8, 9), impl.Heap{Words: []int{0, 7, 1, 1, 5, 1, 2, 8, 9, 0, 0, 0, 0}, Top: 9, Cells: cellsOf(live(5, 4), live(0, 2), live(2, 3))}, 0, true)
	wantPut(t, h, vector(1, 2, 3, 4, 5, 6), impl.Heap{Words: []int{0, 7, 1, 1, 5, 1, 6, 1, 2, 3, 4, 5, 6}, Top: 13, Cells: cellsOf(live(5, 8), live(0, 2), live(2, 3))}, 0, true)
	wantNotPut(t, h, vector(1, 2, 3, 4, 5, 6, 7))
	wantNotPut(t, h, numberedArray([]int{300}))
	wantHeapAsModel(t, h, arraysOfEachRank()...)
}

// Just room enough at Top, just enough when packed, and one word less.
func TestHeapPutAtTheLimitOfRoom(t *testing.T) {
	arrays := []impl.Array{vector(1, 2, 3, 4), scalar(7), inShape([]int{2, 1}, 5, 6), numberedArray([]int{10, 10, 3})}
	for _, a := range append(arrays, vector(), numberedArray([]int{300})) {
		long := len(wordsFor(a))
		for gone := range arrays {
			for free := max(0, long-60); free <= long+1; free++ {
				h := without(heapWith(free, arrays...), gone)
				ok := wantPutAsModel(t, h, a)
				if dropped := len(wordsFor(arrays[gone])); ok != (long <= free+dropped) {
					t.Errorf("%d words in %d behind Top and %d ahead of it: %v", long, free, dropped, ok)
				}
				got, _, _ := impl.HeapPut(h, a)
				moved := !slices.Equal(got.Words[:h.Top], h.Words[:h.Top])
				if long <= free && (moved || got.Top != h.Top+long) || !ok && !sameHeap(got, h) {
					t.Errorf("%d words in %d: packed, but it need not be, or it did not help: %v, %v", long, free, h, got)
				}
			}
		}
	}
}

func TestHeapPutAtMaxRoom(t *testing.T) {
	h, _ := impl.HeapNew(6000)
	big := numberedArray([]int{5, 4, 15})
	for range 19 {
		h, _, _ = impl.HeapPut(h, big)
	}
	rest := numberedArray([]int{222})
	wantNotPut(t, h, big)
	wantNotPut(t, h, numberedArray([]int{223}))
	full, i, ok := impl.HeapPut(h, rest)
	if !ok || i != 19 || full.Top != 6000 || impl.HeapUsed(full) != 6000 {
		t.Fatal("a heap can't be filled:", full.Top, i, ok)
	}
	wantNotPut(t, full, scalar(1))
	wantNotPut(t, full, vector())
	wantPackedAlike(t, full)
	for i := range 20 {
		some, _ := impl.HeapDrop(full, i)
		wantUsed(t, some, 6000-len(wordsAt(full, i)))
		wantPutAsModel(t, some, rest)
		if ok := wantPutAsModel(t, some, big); ok != (i < 19) {
			t.Error("304 words in the place of those under", i, ":", ok)
		}
		wantPackedAlike(t, some)
	}
}

// A heap that is full of cells, with each of them not Live, and with none.
func TestHeapPutAtMaxCells(t *testing.T) {
	var arrays []impl.Array
	for i := range 200 {
		arrays = append(arrays, scalar(i))
	}
	h := heapWith(9, arrays...)
	wantNotPut(t, h, scalar(1))
	wantNotPut(t, h, vector(1, 2))
	wantNotPut(t, h, numberedArray([]int{300}))
	for i := range 200 {
		some := without(h, i)
		want := copiedHeap(some)
		want.Words[400], want.Words[401], want.Top, want.Cells[i] = 0, 8, 402, live(400, 2)
		wantPut(t, some, scalar(8), want, i, true)
		wantPutAsModel(t, some, numberedArray([]int{9}))
		wantPutAsModel(t, some, numberedArray([]int{10}))
		if i%20 == 0 {
			wantHeapAsModel(t, some, vector(7, 7), vector(), impl.Array{})
		}
	}
	last := copiedHeap(h)
	last.Cells = last.Cells[:199]
	want := copiedHeap(last)
	want.Words[400], want.Words[401], want.Top, want.Cells = 0, 8, 402, append(want.Cells, live(400, 2))
	wantPut(t, last, scalar(8), want, 199, true)
	wantNotPut(t, want, scalar(8))
	none := impl.Heap{Words: make([]int, 9), Cells: manyCells(200, impl.Cell{})}
	wantPutAsModel(t, none, scalar(3))
}

// With no cell for it a heap is not packed, either.
func TestHeapPutIsNotPackedWithoutCells(t *testing.T) {
	h := impl.Heap{Words: numbered(600), Top: 599}
	for i := range 200 {
		h.Cells = append(h.Cells, live(595-2*i, 1))
	}
	wantHeapOk(t, true, h)
	wantNotPut(t, h, scalar(5))
	wantNotPut(t, h, numberedArray([]int{5}))
	h.Cells[77] = impl.Cell{}
	p := wantedPacked(h)
	p.Words[199], p.Words[200], p.Words[201], p.Top, p.Cells[77] = 1, 1, 6, 202, live(199, 3)
	wantPut(t, h, vector(6), p, 77, true)
}

// An array that is not right leaves the heap as it was, whatever room it has.
func TestHeapPutOfWrongArrays(t *testing.T) {
	heaps := []impl.Heap{{}, {Words: numbered(9)}, {Words: numbered(6000)}, without(heapWith(1, vector(1, 2, 3), scalar(2)), 0), heapWith(700, scalar(3)), without(heapWith(300, numberedArray([]int{300}), scalar(3)), 0)}
	for _, h := range heaps {
		for _, a := range append(everyWrongArray(), impl.Array{}, impl.Array{Shape: []int{}}, impl.Array{Data: []int{1, 2}}, impl.Array{Shape: []int{1}}) {
			wantNotPut(t, h, a)
		}
	}
}

// That a heap is not right counts ahead of all else.
func TestHeapReasons(t *testing.T) {
	wrong := impl.Heap{Words: numbered(9), Top: 10}
	for _, a := range []impl.Array{scalar(1), {}, numberedArray([]int{300}), scalar(top + 1)} {
		wantPut(t, wrong, a, impl.Heap{}, -1, false)
		wantPut(t, impl.Heap{Cells: manyCells(201, impl.Cell{})}, a, impl.Heap{}, -1, false)
		wantPut(t, impl.Heap{Words: make([]int, 6001)}, a, impl.Heap{}, -1, false)
	}
	for _, i := range []int{-1, 0, 1, math.MaxInt, math.MinInt} {
		wantDrop(t, wrong, i, impl.Heap{}, false)
		wantGet(t, wrong, i, impl.Array{}, false)
	}
	h := heapWith(5, scalar(4), vector(5, 6))
	broken := copiedHeap(h)
	broken.Cells[1].Long = 20
	wantGet(t, h, 0, scalar(4), true)
	wantGet(t, broken, 0, impl.Array{}, false)
	wantDrop(t, broken, 0, impl.Heap{}, false)
	wantPut(t, broken, scalar(1), impl.Heap{}, -1, false)
}

func TestHeapHandles(t *testing.T) {
	h := without(heapWith(5, scalar(4), vector(5, 6), scalar(7)), 1)
	wantGet(t, h, 0, scalar(4), true)
	wantGet(t, h, 2, scalar(7), true)
	wantDrop(t, h, 0, without(h, 0), true)
	wantDrop(t, h, 2, without(h, 2), true)
	for _, i := range []int{1, 3, 4, 199, 200, -1, -2, -3, 1 << 32, -1 << 32, math.MaxInt, math.MinInt} {
		wantGet(t, h, i, impl.Array{}, false)
		wantDrop(t, h, i, copiedHeap(h), false)
	}
	twice, _ := impl.HeapDrop(h, 2)
	wantDrop(t, twice, 2, twice, false)
	if len(twice.Cells) != 3 || twice.Top != h.Top || !slices.Equal(twice.Words, h.Words) {
		t.Error("a dropped array takes more with it than itself:", twice)
	}
	var arrays []impl.Array
	for i := range 200 {
		arrays = append(arrays, scalar(1000+i))
	}
	full := heapWith(0, arrays...)
	for i, a := range arrays {
		wantGet(t, full, i, a, true)
		wantDrop(t, full, i, without(full, i), true)
	}
	wantGet(t, full, 200, impl.Array{}, false)
	wantDrop(t, full, 200, full, false)
}

// wordsOfNone are not those of an array.
func wordsOfNone() [][]int {
	list := [][]int{{0}, {1}, {2}, {3}, {4}, {-1}, {7}, {0, 1, 2}, {-1, 5}, {-1, 1, 5}, {1, 1}, {1, 2, 5}, {1, 1, 5, 6}, {1, 0, 5}, {1, -1}, {1, -1, 5}, {1, 301}, {2, 1}, {2, 1, 1}, {2, 0}, {2, 2, 2, 1, 2, 3},
		{2, 2, 2, 1, 2, 3, 4, 5}, {2, -1, -1, 5}, {2, 0, 301}, {2, 301, 0}, {2, 0, -1}, {3, 1, 1}, {3, 0, 0}, {3, 1, 1, 1}, {3, 1, 1, 1, 5, 6}, {3, 0, 0, -1}, {4, 1, 1, 1, 1, 5}, {4, 0, 0, 0, 0}, {5, 1, 1, 1, 1, 1, 5},
		{1, 1 << 62}, {2, 1 << 32, 1 << 32}, {2, 1 << 32, 1 << 32, 0}, {2, math.MaxInt, math.MaxInt, 1}, slices.Concat([]int{1, 301}, numbered(301)), slices.Concat([]int{2, 7, 43}, numbered(301)),
		slices.Concat([]int{1, 299}, numbered(300)), slices.Concat([]int{1, 300}, numbered(299)), slices.Concat([]int{0}, numbered(300)), numbered(6000)}
	for _, x := range farNumbers() {
		list = append(list, []int{x}, []int{x, 1}, []int{x, 0, 0}, []int{1, x}, []int{1, x, 5}, []int{2, x, 0}, []int{2, 0, x}, []int{3, 1, x, 1, 5})
	}
	for _, x := range wrongNumbers() {
		list = append(list, []int{0, x}, []int{1, 1, x}, []int{1, 3, 4, x, 5}, []int{2, 1, 2, 5, x}, []int{3, 2, 1, 1, x, 5}, []int{x, x})
	}
	return list
}

func TestHeapGetOfOtherWords(t *testing.T) {
	for _, words := range wordsOfNone() {
		h := impl.Heap{Words: words, Top: len(words), Cells: cellsOf(live(0, len(words)))}
		wantHeapOk(t, true, h)
		wantGet(t, h, 0, impl.Array{}, false)
		if len(words) > 5900 {
			continue
		}
		// Between others it is as much none as alone, and turns none of them.
		among := impl.Heap{Words: slices.Concat([]int{0, 7}, words, []int{1, 1, 8, 55})}
		among.Top, among.Cells = len(words)+5, cellsOf(live(2, len(words)), live(len(words)+2, 3), live(0, 2))
		wantGet(t, among, 0, impl.Array{}, false)
		wantGet(t, among, 1, vector(8), true)
		wantGet(t, among, 2, scalar(7), true)
		wantHeapAsModel(t, among, scalar(1))
		wantPackedAlike(t, among)
		wantPackedAlike(t, without(among, 2))
	}
}

// All lists of up to five words that there are, of few numbers.
func TestHeapGetOfFewWords(t *testing.T) {
	right := 0
	for long := 1; long <= 5; long++ {
		everyList([]int{-1, 0, 1, 2, 3, 4}, long, func(words []int) {
			h := impl.Heap{Words: words, Top: long, Cells: cellsOf(live(0, long))}
			want, ok := arrayIn(words)
			wantGet(t, h, 0, want, ok)
			if ok {
				right++
				if !impl.ArrayOk(want) || !slices.Equal(wordsFor(want), words) {
					t.Error("the test itself takes them for an array:", words)
				}
			}
		})
	}
	if right < 50 {
		t.Error("the test itself hardly has words of arrays:", right)
	}
}
