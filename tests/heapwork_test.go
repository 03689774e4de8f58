package tests

import (
	"slices"
	"testing"

	"loop.example/g00182/impl"
)

// heapWork is a heap at work, and what it must have under each handle. It keeps
// no words: where they stand is asked of the heap.
type heapWork struct {
	heap  impl.Heap
	there map[int]impl.Array
	draw  func(n int) int
}

// firstMissing is the handle that comes next.
func (w *heapWork) firstMissing() int {
	i := 0
	for ; i < len(w.heap.Cells); i++ {
		if _, has := w.there[i]; !has {
			break
		}
	}
	return i
}

func (w *heapWork) used() int {
	used := 0
	for _, a := range w.there {
		used += len(wordsFor(a))
	}
	return used
}

func (w *heapWork) put(t *testing.T, a impl.Array) bool {
	t.Helper()
	next, i, ok := impl.HeapPut(w.heap, a)
	fits := w.used()+len(wordsFor(a)) <= len(w.heap.Words) && len(w.there) < 200
	switch {
	case ok != fits:
		t.Fatalf("%v is put into %v: %v", a, w.heap, ok)
	case ok && i != w.firstMissing():
		t.Fatalf("%v is put under %d in %v", a, i, w.heap)
	case !ok && (i != -1 || !sameHeap(next, w.heap)):
		t.Fatalf("%v is not put, but %v is then %v, with %d", a, w.heap, next, i)
	}
	w.heap = next
	if ok {
		w.there[i] = a
	}
	return ok
}

func (w *heapWork) drop(t *testing.T, i int) {
	t.Helper()
	_, has := w.there[i]
	next, ok := impl.HeapDrop(w.heap, i)
	if ok != has || !ok && !sameHeap(next, w.heap) {
		t.Fatalf("%d is dropped from %v: %v, %v", i, w.heap, next, ok)
	}
	w.heap = next
	delete(w.there, i)
}

func (w *heapWork) pack(t *testing.T) {
	t.Helper()
	wantPackedAlike(t, w.heap)
	w.heap, _ = impl.HeapPack(w.heap)
}

// check asks for all arrays under their handles, and for no others.
func (w *heapWork) check(t *testing.T) {
	t.Helper()
	if !impl.HeapOk(w.heap) || impl.HeapUsed(w.heap) != w.used() {
		t.Fatalf("%v is not right, or has other words in use than %d", w.heap, w.used())
	}
	for i := -1; i <= len(w.heap.Cells); i++ {
		a, has := w.there[i]
		wantGet(t, w.heap, i, a, has)
	}
}

// aSmallArray is drawn of any rank; some have no numbers.
func (w *heapWork) aSmallArray(most int) impl.Array {
	shape := make([]int, w.draw(4))
	for i := range shape {
		shape[i] = w.draw(most)
	}
	a := numberedArray(shape)
	for i := range a.Data {
		a.Data[i] = w.draw(1000) - 500
	}
	return a
}

func newHeapWork(seed uint32, room int) *heapWork {
	h, _ := impl.HeapNew(room)
	return &heapWork{heap: h, there: map[int]impl.Array{}, draw: drawing(seed)}
}

// step puts, drops or packs, as it is drawn.
func (w *heapWork) step(t *testing.T, most int) {
	t.Helper()
	switch w.draw(8) {
	case 0, 1, 2, 3:
		w.put(t, w.aSmallArray(most))
	case 4, 5, 6:
		w.drop(t, w.draw(len(w.heap.Cells)+2)-1)
	case 7:
		if w.draw(4) == 0 {
			w.pack(t)
		}
	}
}

// Promise 13: whatever is put, dropped and put again, packed or not, each array
// is under its handle.
func TestPackedAMemoryHasTheSameArrays(t *testing.T) {
	put, refused, moved := 0, 0, 0
	for turn, room := range []int{0, 1, 2, 9, 20, 40, 60, 100, 150, 200, 300, 500, 1000, 6000} {
		w := newHeapWork(uint32(turn+1), room)
		for i := range 600 {
			was := w.heap
			w.step(t, 5)
			w.check(t)
			switch {
			case w.heap.Top < was.Top:
				moved++
			case len(w.there) > 0 && w.heap.Top > was.Top:
				put++
			default:
				refused++
			}
			if i%7 == 0 {
				wantPackedAlike(t, w.heap)
				wantHeapAsModel(t, w.heap, w.aSmallArray(5), vector(), numberedArray([]int{room % 301}))
			}
		}
	}
	if put < 1000 || refused < 500 || moved < 100 {
		t.Error("the test itself hardly has each:", put, refused, moved)
	}
}

// Up to the limits of cells and of room.
func TestMemoriesThatAreFull(t *testing.T) {
	w := newHeapWork(77, 6000)
	for w.put(t, w.aSmallArray(3)) {
		if len(w.there)%20 == 0 {
			w.check(t)
		}
	}
	if len(w.there) != 200 {
		t.Fatal("a heap is full of cells with", len(w.there))
	}
	for range 40 {
		w.drop(t, w.draw(200))
		w.put(t, w.aSmallArray(4))
		w.put(t, w.aSmallArray(4))
		w.check(t)
	}
	w = newHeapWork(78, 6000)
	for i := range 60 {
		if !w.put(t, numberedArray([]int{300 - i})) {
			w.drop(t, w.draw(len(w.heap.Cells)))
			w.drop(t, w.draw(len(w.heap.Cells)))
		}
		w.check(t)
		wantPackedAlike(t, w.heap)
	}
}

// Arrays of each rank, dropped in several orders and put again.
func TestMemoryInSeveralOrders(t *testing.T) {
	arrays := []impl.Array{scalar(3), vector(), vector(4, 5, 6), inShape([]int{2, 2}, 1, 2, 3, 4), inShape([]int{1, 2, 1}, 8, 9)}
	for _, order := range orders(5) {
		w := newHeapWork(1, 24)
		for _, i := range order {
			if !w.put(t, arrays[i]) {
				t.Fatal("the test itself has no room")
			}
		}
		w.check(t)
		for _, i := range order[1:] {
			w.drop(t, i)
			w.check(t)
			wantPackedAlike(t, w.heap)
			w.put(t, arrays[order[i]])
			w.check(t)
			w.drop(t, order[0])
			w.check(t)
			wantPackedAlike(t, w.heap)
		}
	}
}

// Where the words of what is Live are, ahead of packing and behind it, is told
// whole by this one.
func TestMemoryWordByWord(t *testing.T) {
	h, _ := impl.HeapNew(12)
	a, b, c := vector(5, 6), scalar(7), inShape([]int{1, 1}, 8)
	h, _, _ = impl.HeapPut(h, a)
	h, _, _ = impl.HeapPut(h, b)
	h, _, _ = impl.HeapPut(h, c)
	wantUsed(t, h, 10)
	words := []int{1, 2, 5, 6, 0, 7, 2, 1, 1, 8, 0, 0}
	if !sameHeap(h, impl.Heap{Words: words, Top: 10, Cells: cellsOf(live(0, 4), live(4, 2), live(6, 4))}) {
		t.Error("three arrays stand so:", h)
	}
	h, _ = impl.HeapDrop(h, 0)
	wantUsed(t, h, 6)
	if !sameHeap(h, impl.Heap{Words: words, Top: 10, Cells: cellsOf(impl.Cell{}, live(4, 2), live(6, 4))}) {
		t.Error("without the first one they stand so:", h)
	}
	again, i, ok := impl.HeapPut(h, vector(9, 9))
	want := impl.Heap{Words: []int{0, 7, 2, 1, 1, 8, 1, 2, 9, 9, 0, 0}, Top: 10, Cells: cellsOf(live(6, 4), live(0, 2), live(2, 4))}
	if !ok || i != 0 || !sameHeap(again, want) {
		t.Error("with another one for it they stand so:", again, i, ok)
	}
	wantUsed(t, again, 10)
	h, _ = impl.HeapDrop(again, 1)
	wantPack(t, h, impl.Heap{Words: []int{2, 1, 1, 8, 1, 2, 9, 9, 0, 0, 0, 0}, Top: 8, Cells: cellsOf(live(4, 4), impl.Cell{}, live(0, 4))}, true)
	wantUsed(t, h, 8)
	if !slices.Equal(again.Words, want.Words) {
		t.Error("a heap is written into:", again)
	}
}
