package tests

import (
	"bytes"
	"slices"
	"strings"
	"testing"

	"loop.example/g00182/impl"
)

func TestShowWritesIntoNothing(t *testing.T) {
	for _, a := range slices.Concat(arraysToShow(), everyWrongArray(), []impl.Array{{}}) {
		g := guard(a)
		want, row, wide := wantedShow(a), "", wantedWide(a.Data)
		if wide >= 0 {
			row = wantedLines(a.Data, 1, len(a.Data), 0)
		}
		text, line := impl.Show(g.array), impl.ShowRow(g.array.Data)
		if impl.ShowWide(g.array.Data) != wide {
			t.Error("ShowWide is wrong of", a.Data)
		}
		g.check(t)
		// A text is no memory of the numbers.
		scribble(g.data)
		scribble(g.shape)
		if text != want || line != row {
			t.Errorf("%v is shown as %q and %q", a, text, line)
		}
	}
}

func TestArrayPackIsNewMemory(t *testing.T) {
	for _, a := range slices.Concat(arraysToShow(), everyWrongArray(), []impl.Array{{}}) {
		g := guard(a)
		first, ok := impl.ArrayPack(g.array)
		second, _ := impl.ArrayPack(g.array)
		g.check(t)
		scribbleBytes(first)
		g.check(t)
		scribble(g.data)
		scribble(g.shape)
		if ok != wantedArrayOk(a) || ok && !bytes.Equal(second, bytesOfArray(a)) {
			t.Error("the bytes share memory with the array, or with other bytes:", second, a)
		}
	}
}

func TestArrayReadIsNewMemory(t *testing.T) {
	lists := [][]byte{nil, {0}, {1, 0}, {4, 0, 0, 0, 0, 0, 0, 0, 0}, {255, 255, 255}, {1, 1, 0, 255, 255, 255, 255, 255, 255, 255, 255}}
	for _, a := range append(arraysToShow(), arraysToSpoil()...) {
		lists = append(lists, bytesOfArray(a))
	}
	for _, b := range lists {
		room := append(slices.Clone(b), 71, 72, 73, 74)
		part, was := room[:len(b)], slices.Clone(room)
		read := func() impl.Array {
			a, _ := impl.ArrayRead(part)
			return a
		}
		wantListsApart(t, func() [][]int {
			a := read()
			return [][]int{a.Shape, a.Data}
		})
		first, second := read(), read()
		scribble(first.Shape)
		scribble(first.Data)
		if !bytes.Equal(room, was) {
			t.Error("written into:", was, room)
		}
		scribbleBytes(room)
		if want, _ := wantedArray(b); !alike(second, want) {
			t.Error("the array shares memory with its bytes, or with another one:", second, want)
		}
	}
}

// One list may be both lists of what is handed in, and overlap itself.
func TestShowOfOneList(t *testing.T) {
	list := []int{2, 1, 5}
	matrix := impl.Array{Shape: list[:2], Data: list[:2]}
	wantShown(t, "2\n1", matrix)
	wantArrayPacked(t, bytesOfArray(inShape([]int{2, 1}, 2, 1)), matrix)
	vector := impl.Array{Shape: list[1:2], Data: list[1:2]}
	wantShown(t, "1", vector)
	wantArrayPacked(t, bytesOfArray(inShape([]int{1}, 1)), vector)
	if !slices.Equal(list, []int{2, 1, 5}) {
		t.Error("written into:", list)
	}
}

// No call leaves anything to the next one: in turn they tell the same as alone.
func TestShowKeepsNothing(t *testing.T) {
	arrays := slices.Concat(arraysToShow(), arraysOfNoShape())
	shown := func(i int) string {
		b, ok := impl.ArrayPack(arrays[i])
		again, read := impl.ArrayRead(b)
		if ok != read || ok && !alike(again, arrays[i]) {
			t.Error("not read as it was:", arrays[i], again)
		}
		return impl.Show(arrays[i])
	}
	var want []string
	for i := range arrays {
		want = append(want, strings.Clone(shown(i)))
	}
	for turn := range 3 {
		for i := range arrays {
			j := (i*7 + turn*11) % len(arrays)
			if got := shown(j); got != want[j] {
				t.Errorf("array %d is shown as %q; it was shown as %q", j, got, want[j])
			}
		}
	}
}
