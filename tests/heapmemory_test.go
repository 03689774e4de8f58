package tests

import (
	"math"
	"slices"
	"testing"

	"loop.example/g00182/impl"
)

// guardedHeap is a heap with spare room behind each of its lists, and what all
// of it must look like behind every call.
type guardedHeap struct {
	heap     impl.Heap
	words    []int
	cells    []impl.Cell
	wasWords []int
	wasCells []impl.Cell
}

func guardHeap(h impl.Heap) guardedHeap {
	g := guardedHeap{heap: h}
	g.heap.Words, g.words = withSpare(h.Words)
	g.cells = append(slices.Clone(h.Cells), live(61, 62), impl.Cell{From: 63, Long: 64}, impl.Cell{})
	g.heap.Cells = g.cells[:len(h.Cells)]
	g.wasWords, g.wasCells = slices.Clone(g.words), slices.Clone(g.cells)
	return g
}

func (g guardedHeap) check(t *testing.T) {
	t.Helper()
	if !slices.Equal(g.words, g.wasWords) || !slices.Equal(g.cells, g.wasCells) {
		t.Error("written into:", g.wasWords, g.words, g.wasCells, g.cells)
	}
}

func (g guardedHeap) scribble() { scribbleHeap(impl.Heap{Words: g.words, Cells: g.cells}) }

// scribbleHeap writes over both lists and all the room behind them.
func scribbleHeap(h impl.Heap) {
	scribble(h.Words)
	all := h.Cells[:cap(h.Cells)]
	for i := range all {
		all[i] = live(91+i, 92)
	}
	_ = append(h.Cells, live(93, 94), live(95, 96))
}

// heapsForMemory are right or not, with room and without, packed and not.
func heapsForMemory() []impl.Heap {
	one, two, three := vector(1, 2, 3), scalar(7), inShape([]int{2, 1}, 8, 9)
	list := []impl.Heap{{}, {Top: 1}, {Words: []int{}, Cells: []impl.Cell{}}, {Words: numbered(3)}, {Words: numbered(9), Top: 9}, {Words: numbered(6000), Top: 7}, {Words: numbered(6001)},
		{Words: numbered(9), Top: 10}, {Words: numbered(9), Top: -1}, {Words: numbered(9), Top: 9, Cells: cellsOf(live(0, 5), live(4, 2))}, {Words: numbered(9), Top: 9, Cells: cellsOf(live(0, 5), impl.Cell{Long: 3})},
		{Words: numbered(9), Top: 9, Cells: manyCells(200, impl.Cell{})}, {Words: numbered(9), Top: 9, Cells: manyCells(201, impl.Cell{})}, {Words: numbered(500), Top: 499, Cells: scalarCells(200)}}
	for _, free := range []int{0, 1, 2, 3, 4, 9, 400} {
		h := heapWith(free, one, two, three)
		list = append(list, h, without(h, 0), without(h, 1), without(h, 2), without(h, 0, 1), without(h, 0, 1, 2))
	}
	return list
}

// wantOwnHeap writes over answers of one call, and over what was handed in:
// none of them may turn another one.
func wantOwnHeap(t *testing.T, g guardedHeap, want impl.Heap, answered func() impl.Heap) {
	t.Helper()
	first, second := answered(), answered()
	g.check(t)
	if !sameHeap(first, want) || !sameHeap(second, want) {
		t.Errorf("%v comes to %v; want %v", g.heap, first, want)
	}
	scribbleHeap(first)
	g.check(t)
	if !sameHeap(second, want) || !sameHeap(answered(), want) {
		t.Errorf("a write into an answer turns another one: %v, %v", second, want)
	}
	g.scribble()
	if !sameHeap(second, want) {
		t.Errorf("a write into the heap turns an answer: %v, %v", second, want)
	}
}

func TestHeapPackIsNewMemory(t *testing.T) {
	for _, h := range heapsForMemory() {
		var want impl.Heap
		if wantedHeapOk(h) {
			want = wantedPacked(h)
		}
		g := guardHeap(h)
		wantOwnHeap(t, g, want, func() impl.Heap {
			p, _ := impl.HeapPack(g.heap)
			return p
		})
		g = guardHeap(want)
		wantOwnHeap(t, g, want, func() impl.Heap {
			p, _ := impl.HeapPack(g.heap)
			return p
		})
	}
}

func TestHeapDropIsNewMemory(t *testing.T) {
	for _, h := range heapsForMemory() {
		for _, i := range []int{-1, 0, 1, 2, 3, 199, 200, math.MaxInt, math.MinInt} {
			g := guardHeap(h)
			wantOwnHeap(t, g, wantedDropped(h, i), func() impl.Heap {
				p, _ := impl.HeapDrop(g.heap, i)
				return p
			})
		}
	}
}

func TestHeapPutIsNewMemory(t *testing.T) {
	arrays := []impl.Array{scalar(4), vector(), vector(5, 6), inShape([]int{1, 2, 1}, 7, 8), numberedArray([]int{300}), {}, scalar(top + 1), inShape([]int{2}, 5), inShape([]int{-1}, 5)}
	for _, h := range heapsForMemory() {
		for _, a := range arrays {
			want, _, _ := wantedPut(h, a)
			want = copiedHeap(want)
			g, array := guardHeap(h), guard(a)
			put := func() impl.Heap {
				p, _, _ := impl.HeapPut(g.heap, array.array)
				return p
			}
			kept := put()
			wantOwnHeap(t, g, want, put)
			array.check(t)
			scribble(array.shape)
			scribble(array.data)
			if !sameHeap(kept, want) {
				t.Errorf("a write into the array turns the heap that has it: %v, %v", kept, want)
			}
			again := guard(a)
			p, _, _ := impl.HeapPut(guardHeap(h).heap, again.array)
			scribbleHeap(p)
			again.check(t)
		}
	}
}

func TestHeapGetIsNewMemory(t *testing.T) {
	for _, h := range heapsForMemory() {
		for _, i := range []int{-1, 0, 1, 2, 3, math.MaxInt} {
			g := guardHeap(h)
			get := func() impl.Array {
				a, _ := impl.HeapGet(g.heap, i)
				return a
			}
			kept := get()
			want := copied(kept)
			wantOwnMemory(t, get)
			g.check(t)
			wantGetAsModel(t, h, i)
			g.scribble()
			if !alike(kept, want) {
				t.Errorf("a write into the heap turns an array: %v, %v", kept, want)
			}
		}
	}
}

func TestHeapsWriteIntoNothing(t *testing.T) {
	for _, h := range heapsForMemory() {
		g := guardHeap(h)
		for range 2 {
			if impl.HeapOk(g.heap) != wantedHeapOk(h) || wantedHeapOk(h) && impl.HeapUsed(g.heap) != wantedUsed(h) {
				t.Error("HeapOk or HeapUsed is wrong of", h)
			}
			g.check(t)
		}
	}
	first, _ := impl.HeapNew(9)
	second, _ := impl.HeapNew(9)
	scribbleHeap(first)
	if !sameHeap(second, impl.Heap{Words: make([]int, 9)}) {
		t.Error("two new heaps share memory:", second)
	}
	third, _ := impl.HeapNew(9)
	if !sameHeap(third, second) {
		t.Error("a write into a new heap turns the next one:", third)
	}
}

// A heap that goes on by itself and one whose answers are written over, when
// they have been handed on, come to the same.
func TestHeapsKeepNothing(t *testing.T) {
	want, _ := impl.HeapNew(60)
	h, _ := impl.HeapNew(60)
	draw := drawing(5)
	for range 300 {
		a, i := numberedArray([]int{draw(12)}), draw(9)
		next := h
		switch draw(3) {
		case 0:
			next, _ = impl.HeapDrop(h, i)
			want = wantedDropped(want, i)
		default:
			next, _, _ = impl.HeapPut(h, a)
			want, _, _ = wantedPut(want, a)
			scribble(a.Data)
		}
		scribbleHeap(h)
		h = next
		if !sameHeap(h, want) {
			t.Fatalf("a write into a heap turns the one behind it: %v, %v", h, want)
		}
	}
}

// One list may be the words of a heap and the lists of the array that is put.
func TestHeapOfOneList(t *testing.T) {
	list := []int{1, 1, 5, 2, 9, 9, 9}
	h := impl.Heap{Words: list, Top: 3, Cells: cellsOf(live(0, 3))}
	a := impl.Array{Shape: list[3:4], Data: list[1:3]}
	wantPut(t, h, a, impl.Heap{Words: []int{1, 1, 5, 1, 2, 1, 5}, Top: 7, Cells: cellsOf(live(0, 3), live(3, 4))}, 1, true)
	wantPut(t, without(h, 0), impl.Array{Shape: list[:1], Data: list[3:4]}, impl.Heap{Words: []int{1, 1, 5, 1, 1, 2, 9}, Top: 6, Cells: cellsOf(live(3, 3))}, 0, true)
	far := impl.Heap{Words: list, Top: 7, Cells: cellsOf(live(3, 3))}
	wantPut(t, far, a, impl.Heap{Words: []int{2, 9, 9, 1, 2, 1, 5}, Top: 7, Cells: cellsOf(live(0, 3), live(3, 4))}, 1, true)
	if !slices.Equal(list, []int{1, 1, 5, 2, 9, 9, 9}) {
		t.Error("written into:", list)
	}
}
