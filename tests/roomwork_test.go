package tests

import (
	"math"
	"slices"
	"testing"

	"loop.example/g00182/impl"
)

// A bookRun does what the chapter says word by word, with the functions that
// the memory gives out: every array is asked of the heap by its handle.
type bookRun struct {
	heap    impl.Heap
	stack   []int
	letters map[int]int
	left    int
	most    int
}

func (b *bookRun) get(i int) impl.Array {
	a, ok := impl.HeapGet(b.heap, i)
	if !ok {
		panic("the test itself asks for what is not there")
	}
	return a
}

func (b *bookRun) put(a impl.Array) (int, bool) {
	next, i, ok := impl.HeapPut(b.heap, a)
	b.heap = next
	b.most = max(b.most, len(b.letters)+len(b.stack)+1)
	return i, ok
}

func (b *bookRun) drop(handles ...int) {
	for _, i := range handles {
		b.heap, _ = impl.HeapDrop(b.heap, i)
	}
}

// vars are the letters as they stand in the heap.
func (b *bookRun) vars() []impl.Var {
	vars := impl.VarsNew()
	for letter, i := range b.letters {
		vars[letter] = impl.Var{Set: true, Value: b.get(i)}
	}
	return vars
}

// step is the code of an instruction.
func (b *bookRun) step(in impl.Instr) int {
	if b.left == 0 {
		return impl.ErSteps
	}
	b.left--
	var arrays []impl.Array
	for _, i := range b.stack {
		arrays = append(arrays, b.get(i))
	}
	takes, a, how := wantedTop(in, arrays, b.vars())
	if how != impl.ErNone {
		return how
	}
	i, ok := b.put(a)
	if !ok {
		return impl.ErFull
	}
	if in.Op == impl.OpSet {
		if was, has := b.letters[in.A]; has {
			b.drop(was)
		}
		b.letters[in.A] = i
		return impl.ErNone
	}
	rest := len(b.stack) - takes
	b.drop(b.stack[rest:]...)
	b.stack = append(b.stack[:rest], i)
	return impl.ErNone
}

func (b *bookRun) run(code []impl.Instr, vars []impl.Var, picks int) int {
	for letter, v := range vars {
		if !v.Set {
			continue
		}
		i, ok := b.put(v.Value)
		if !ok {
			return impl.ErFull
		}
		b.letters[letter] = i
	}
	for i, in := range code {
		if picks/(1<<(i%31))%2 == 1 {
			b.heap, _ = impl.HeapPack(b.heap)
		}
		if how := b.step(in); how != impl.ErNone {
			return how
		}
	}
	return impl.ErNone
}

// wantedBookRun is of arguments that are right, and tells beside how many
// arrays there were at one time.
func wantedBookRun(code []impl.Instr, vars []impl.Var, steps int, room int, picks int) (outcome, int) {
	heap, _ := impl.HeapNew(room)
	b := &bookRun{heap: heap, letters: map[int]int{}, left: steps}
	if how := b.run(code, vars, picks); how != impl.ErNone {
		return outcome{impl.Array{}, vars, how, b.left}, b.most
	}
	return outcome{b.get(b.stack[0]), b.vars(), impl.ErNone, b.left}, b.most
}

func TestHeapRunWordByWord(t *testing.T) {
	codes, draw := map[int]int{}, drawing(14)
	for turn, x := range append(tamedTrees(240), treesOf(grownTrees(120))...) {
		code := wantedCode(x.Nodes)
		vars := varsToTry()[turn%5]
		need := max(impl.RoomFor(code, vars, 60), 2)
		for _, room := range []int{need, need - 1, need + draw(20), draw(need), draw(need), 6000} {
			for _, picks := range []int{0, draw(allPicks), allPicks} {
				steps := 60 - draw(3)*draw(60)/2
				want, most := wantedBookRun(code, vars, steps, room, picks)
				wantRoomRun(t, code, vars, steps, room, picks, want)
				codes[want.code]++
				if most > 57 {
					t.Errorf("%v has %d arrays at one time", code, most)
				}
			}
		}
	}
	if codes[impl.ErNone] < 400 || codes[impl.ErFull] < 1000 || codes[impl.ErSteps] < 100 || len(codes) < 8 {
		t.Error("the test itself hardly has runs of each kind:", codes)
	}
}

// All short lists of instructions, right or not, in each room up to the one
// that is enough.
func TestHeapRunEveryShortList(t *testing.T) {
	choice := codeOf(numInstr(4), numInstr(1, 0), loadInstr('A'), setInstr('A'), setInstr('B'), oneInstr(plainFun('i')), twoInstr(plainFun('%')), twoInstr(plainFun(',')))
	vars, codes := varsWith("B", vector(2, 3)), map[int]int{}
	for long := range 6 {
		everyCode(choice, long, func(code []impl.Instr) {
			c := courseOf(code, vars, long)
			codes[c.end.code]++
			if c.end.code == impl.ErBad {
				wantRoomRun(t, code, vars, long, 40, 0, c.end)
				wantRoomFor(t, code, vars, long, -1)
				return
			}
			wantRoomFor(t, code, vars, long, c.room())
			for room := range c.room() + 2 {
				wantRoomRun(t, code, vars, long, room, room*37%128, c.within(room))
			}
			for steps := range long {
				wantCourse(t, code, vars, steps, 0, 21)
			}
		})
	}
	if codes[impl.ErNone] < 400 || codes[impl.ErBad] < 10000 || codes[impl.ErValue] < 100 || len(codes) < 5 {
		t.Error("the test itself hardly has runs of each kind:", codes)
	}
}

// Each function, on arrays of which it has an answer, and of which it has a
// code.
func TestHeapRunEachFunction(t *testing.T) {
	codes := map[int]int{}
	right := slices.DeleteFunc(arraysToDo(), func(a impl.Array) bool { return !impl.ArrayOk(a) })
	for _, f := range funsOfOne() {
		for _, b := range right {
			codes[wantCourse(t, codeOf(loadInstr('B'), oneInstr(f)), varsWith("B", b), 2, 0, 3).end.code]++
		}
	}
	for _, f := range someFunsOfTwo() {
		for i, b := range right {
			for _, a := range []impl.Array{scalar(2), vector(0, 1), b, right[(i+5)%len(right)]} {
				codes[wantCourse(t, codeOf(loadInstr('B'), loadInstr('A'), twoInstr(f)), varsWith("AB", a, b), 3, 5).end.code]++
			}
		}
	}
	if len(codes) != 6 || codes[impl.ErBad] > 0 || codes[impl.ErNone] < 1000 {
		t.Error("the test itself hardly has each code:", codes)
	}
}

// Each instruction of some codes is spoiled in every way: what is still code
// needs the room that it says, all else is ErBad.
func TestHeapRunOfSpoiledCode(t *testing.T) {
	vars := slices.Repeat([]impl.Var{{Set: true, Value: scalar(2)}}, 26)
	codes := map[int]int{}
	for _, code := range append(codesToStep(), grownCodes(8)...) {
		for i, x := range code {
			for _, y := range spoiledInstrs(x) {
				other := slices.Clone(code)
				other[i] = y
				codes[wantCourse(t, other, vars, 20, 0).end.code]++
			}
		}
	}
	if codes[impl.ErNone] < 100 || codes[impl.ErBad] < 1000 {
		t.Error("the test itself hardly has both:", codes)
	}
}

// Promise 14: with room enough code runs as on the machine, whenever it is
// packed; with less it is full, at the same instruction whenever it is packed.
func TestInAMemoryWithRoomEnoughCodeRunsAsOnTheMachine(t *testing.T) {
	codes, kinds, draw := map[int]int{}, map[int]int{}, drawing(9)
	for _, x := range append(tamedTrees(500), treesOf(grownTrees(200))...) {
		code, ok := impl.Compile(x)
		if !ok {
			t.Fatal("not compiled:", x)
		}
		for _, in := range code {
			kinds[in.Op]++
		}
		for _, vars := range varsToTry() {
			steps := []int{math.MaxInt, len(code), len(code) - 1, draw(61), 0}[draw(5)]
			want, need := runOf(code, vars, steps), impl.RoomFor(code, vars, steps)
			if need < wordsIn(impl.Machine{Vars: vars}) {
				t.Fatalf("RoomFor(%v, %v, %d) = %d", code, vars, steps, need)
			}
			codes[want.code]++
			for _, room := range []int{need, min(need+1+draw(50), 6000), 6000} {
				for _, picks := range []int{0, allPicks, 1 << draw(31), draw(1<<20) << draw(12)} {
					wantRoomRun(t, code, vars, steps, room, picks, want)
				}
			}
			if need == 0 {
				continue
			}
			for _, room := range []int{need - 1, draw(need), 0} {
				full := roomRunOf(code, vars, steps, room, 0)
				if full.code != impl.ErFull || !alike(full.array, impl.Array{}) || !sameVars(full.vars, vars) || full.left < want.left || full.left > steps {
					t.Errorf("HeapRun(%v, %v, %d, %d, 0) = %v, where Run comes to %v", code, vars, steps, room, full, want)
				}
				for _, picks := range []int{allPicks, 1 << draw(31), draw(1<<20) << draw(12)} {
					wantRoomRun(t, code, vars, steps, room, picks, full)
				}
			}
		}
	}
	if codes[impl.ErNone] < 300 || codes[impl.ErSteps] < 300 || len(codes) < 7 || len(kinds) != 5 {
		t.Error("the test itself hardly has runs of each kind:", codes, kinds)
	}
}

// With less room it is full at the same instruction or an earlier one, and no
// room below the least one is enough.
func TestRoomForIsTheLeast(t *testing.T) {
	for turn, x := range append(tamedTrees(60), treesOf(grownTrees(60))...) {
		code, vars := wantedCode(x.Nodes), varsToTry()[turn%5]
		c := courseOf(code, vars, 60)
		wantRoomFor(t, code, vars, 60, c.room())
		left := 61
		for room := range min(c.room(), 400) {
			got := roomRunOf(code, vars, 60, room, 0)
			if got.code != impl.ErFull || got.left > left {
				t.Errorf("HeapRun(%v, %v, 60, %d, 0) = %v with %d left ahead of it", code, vars, room, got, left)
			}
			left = got.left
		}
		for _, room := range []int{c.room(), c.room() + 1, 6000} {
			wantRoomRun(t, code, vars, 60, room, 0, c.end)
		}
	}
}

// With fewer steps code never needs more room.
func TestRoomForBySteps(t *testing.T) {
	for turn, x := range tamedTrees(120) {
		code, vars := wantedCode(x.Nodes), varsToTry()[turn%5]
		last := wordsIn(impl.Machine{Vars: vars})
		wantRoomFor(t, code, vars, 0, last)
		for steps := range len(code) + 2 {
			room := impl.RoomFor(code, vars, steps)
			if room < last {
				t.Errorf("RoomFor(%v, %v, %d) = %d, but %d with a step less", code, vars, steps, room, last)
			}
			last = room
		}
		wantRoomFor(t, code, vars, math.MaxInt, last)
	}
}
