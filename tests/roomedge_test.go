package tests

import (
	"math"
	"slices"
	"testing"

	"loop.example/g00182/impl"
)

// With a code of its own an instruction puts nothing, and so needs no room: it
// has that code where all words are in use, too.
func TestHeapRunEachCode(t *testing.T) {
	none, some := impl.VarsNew(), someVars()
	for _, c := range []struct {
		vars []impl.Var
		used int
	}{{none, 0}, {some, 18}} {
		wantRoomEnd(t, "1 % 0", c.vars, impl.ErDomain, 3, c.used+4)
		wantRoomEnd(t, "~ 2", c.vars, impl.ErDomain, 2, c.used+2)
		wantRoomEnd(t, "i _1", c.vars, impl.ErDomain, 2, c.used+2)
		wantRoomEnd(t, "1 2 + 1 2 3", c.vars, impl.ErLength, 3, c.used+9)
		wantRoomEnd(t, "g 3", c.vars, impl.ErRank, 2, c.used+2)
		wantRoomEnd(t, "2 @ 5 6", c.vars, impl.ErIndex, 3, c.used+6)
		wantRoomEnd(t, "1000000000000 + 1", c.vars, impl.ErLimit, 3, c.used+4)
		wantRoomEnd(t, "i 301", c.vars, impl.ErLimit, 2, c.used+2)
		wantRoomEnd(t, "( i 200 ) , i 101", c.vars, impl.ErLimit, 5, c.used+307)
		wantRoomEnd(t, "Q", c.vars, impl.ErValue, 1, c.used)
		wantRoomEnd(t, "Q + 1 2", c.vars, impl.ErValue, 2, c.used+4)
		wantRoomEnd(t, "( 1 % 0 ) + 1 2 + 1 2 3", c.vars, impl.ErLength, 3, c.used+9)
		wantRoomEnd(t, "( 1 % 0 ) + Q", c.vars, impl.ErValue, 1, c.used)
	}
	// What is set by then is there no more, though it was in the memory.
	wantRoomEnd(t, "( 1 % 0 ) , A : B : 4", none, impl.ErDomain, 6, 10)
	wantRoomEnd(t, "Q , A : B : 4", none, impl.ErValue, 4, 6)
	wantRoomEnd(t, "Q , A : C : 4", some, impl.ErValue, 4, 22)
	wantRoomEnd(t, "F : _1 # G : A : 4", none, impl.ErDomain, 5, 8)
}

// Of several reasons that of the instruction that comes first counts, and of
// one instruction: no steps, its own code, no room.
func TestHeapRunWhichReasonIsFirst(t *testing.T) {
	none, six := impl.VarsNew(), varsWith("AZ", vector(1, 2, 3, 4, 5, 6), scalar(3))
	is := func(code []impl.Instr, vars []impl.Var, steps int, room int, how int, left int) {
		t.Helper()
		for _, picks := range somePicks() {
			wantRoomRun(t, code, vars, steps, room, picks, outcome{impl.Array{}, vars, how, left})
		}
	}
	num, load := codeOf(numInstr(7)), codeOf(loadInstr('Q'))
	is(num, none, 0, 0, impl.ErSteps, 0)
	is(num, none, 1, 0, impl.ErFull, 0)
	is(num, none, 1, 1, impl.ErFull, 0)
	is(num, none, math.MaxInt, 1, impl.ErFull, math.MaxInt-1)
	is(load, none, 0, 0, impl.ErSteps, 0)
	is(load, none, 1, 0, impl.ErValue, 0)
	is(load, none, 5, 0, impl.ErValue, 4)
	// The letters have 10 words: they come ahead of all instructions.
	for _, code := range [][]impl.Instr{num, load, codeOf(numInstr(0), numInstr(1), twoInstr(plainFun('%'))), codeOf(numInstr(1), setInstr('A'))} {
		for room := range 10 {
			is(code, six, 0, room, impl.ErFull, 0)
			is(code, six, 1, room, impl.ErFull, 1)
			is(code, six, 77, room, impl.ErFull, 77)
			is(code, six, math.MaxInt, room, impl.ErFull, math.MaxInt)
		}
		is(code, six, 0, 10, impl.ErSteps, 0)
	}
	is(num, six, 3, 10, impl.ErFull, 2)
	is(num, six, 3, 11, impl.ErFull, 2)
	is(load, six, 3, 10, impl.ErValue, 2)
	// The second instruction is full ahead of the code of the third one.
	quotient := codeOf(numInstr(0), numInstr(1), twoInstr(plainFun('%')))
	is(quotient, none, 9, 1, impl.ErFull, 8)
	is(quotient, none, 9, 2, impl.ErFull, 7)
	is(quotient, none, 9, 3, impl.ErFull, 7)
	is(quotient, none, 9, 4, impl.ErDomain, 6)
	is(quotient, none, 2, 4, impl.ErSteps, 0)
	is(quotient, none, 2, 3, impl.ErFull, 0)
	is(quotient, none, 1, 3, impl.ErSteps, 0)
	// A code ahead of what has no room.
	is(append(quotient, oneInstr(plainFun('-'))), none, 9, 5, impl.ErDomain, 6)
	is(codeOf(numInstr(1, 2, 3), loadInstr('Q'), twoInstr(plainFun(','))), none, 9, 5, impl.ErValue, 7)
	is(codeOf(numInstr(1, 2, 3), loadInstr('Q'), twoInstr(plainFun(','))), none, 9, 4, impl.ErFull, 8)
}

// Letters whose Values alone have no room, and just have it.
func TestHeapRunOfLettersAlone(t *testing.T) {
	for _, vars := range append(varsToTry(), varsWith("M", numberedArray([]int{300})), varsWith("AZ", inShape([]int{0, 9}), inShape([]int{2, 0, 2})), slices.Repeat([]impl.Var{{Set: true, Value: vector(4, 4)}}, 26)) {
		used := wordsIn(impl.Machine{Vars: vars})
		code := codeOf(numInstr(8))
		for _, picks := range somePicks() {
			for _, steps := range []int{0, 1, 50} {
				for _, room := range []int{0, 1, used / 2, used - 2, used - 1} {
					if room >= 0 && room < used {
						wantRoomRun(t, code, vars, steps, room, picks, outcome{impl.Array{}, vars, impl.ErFull, steps})
					}
				}
			}
			wantRoomRun(t, code, vars, 0, used, picks, outcome{impl.Array{}, vars, impl.ErSteps, 0})
			wantRoomRun(t, code, vars, 1, used, picks, outcome{impl.Array{}, vars, impl.ErFull, 0})
			wantRoomRun(t, code, vars, 1, used+1, picks, outcome{impl.Array{}, vars, impl.ErFull, 0})
			wantRoomRun(t, code, vars, 1, used+2, picks, outcome{scalar(8), vars, impl.ErNone, 0})
		}
		wantRoomFor(t, code, vars, 0, used)
		wantRoomFor(t, code, vars, 1, used+2)
	}
}

// manyWords are letters that have so many words together, at most 7904.
func manyWords(count int) []impl.Var {
	vars := impl.VarsNew()
	for i := range vars {
		switch {
		case count >= 306 || count == 304:
			vars[i] = impl.Var{Set: true, Value: numberedArray([]int{5, 4, 15})}
			count -= 304
		case count >= 2:
			long := min(count-2, 300)
			vars[i] = impl.Var{Set: true, Value: numberedArray([]int{long})}
			count -= long + 2
		}
	}
	return vars
}

func TestHeapRunAtMaxRoom(t *testing.T) {
	num, load := codeOf(numInstr(7)), codeOf(loadInstr('Z'))
	for used := 5990; used <= 6010; used++ {
		vars := manyWords(used)
		if wordsIn(impl.Machine{Vars: vars}) != used || vars[25].Set {
			t.Fatal("the test itself has other words:", used)
		}
		wantCourse(t, num, vars, 3, 0, 1, allPicks)
		wantCourse(t, load, vars, 3, 0, 1, allPicks)
		wantCourse(t, codeOf(numInstr(7), setInstr('A'), setInstr('B'), oneInstr(plainFun('-'))), vars, 9, 0, 1, 2, 15, allPicks)
	}
	at, over := manyWords(6000), manyWords(6001)
	wantRoomFor(t, load, at, 1, 6000)
	wantRoomFor(t, num, at, 0, 6000)
	wantRoomFor(t, num, at, 1, -1)
	wantRoomFor(t, num, over, 0, -1)
	wantRoomFor(t, load, over, 1, -1)
	wantRoomFor(t, num, manyWords(5998), 1, 6000)
	wantRoomFor(t, num, manyWords(5999), 1, -1)
	wantRoomFor(t, num, manyWords(7904), 1, -1)
	wantRoomRun(t, num, at, 3, 6000, 0, outcome{impl.Array{}, at, impl.ErFull, 2})
	wantRoomRun(t, load, at, 3, 6000, 0, outcome{impl.Array{}, at, impl.ErValue, 2})
	wantRoomRun(t, load, at, 3, 5999, 0, outcome{impl.Array{}, at, impl.ErFull, 3})
	wantRoomRun(t, num, over, 3, 6000, 0, outcome{impl.Array{}, over, impl.ErFull, 3})
	wantRoomRun(t, num, manyWords(5998), 3, 6000, 0, outcome{scalar(7), manyWords(5998), impl.ErNone, 2})
	wantRoomRun(t, num, manyWords(5999), 3, 6000, 0, outcome{impl.Array{}, manyWords(5999), impl.ErFull, 2})
	// Each step leaves as many words as it takes, so that it is packed again
	// and again: 5396 of the letters, and 302 twice.
	code := append(codeOf(numInstr(numbered(300)...)), slices.Repeat(codeOf(oneInstr(plainFun('-'))), 59)...)
	wantRoomFor(t, code, manyWords(5396), 60, 6000)
	wantRoomFor(t, code, manyWords(5397), 60, -1)
	for _, picks := range somePicks() {
		wantRoomRun(t, code, manyWords(5396), 60, 6000, picks, runOf(code, manyWords(5396), 60))
	}
}

// As many arrays at one time as there ever may be: 26 letters, 30 on the stack,
// and one more that is put ahead of dropping. All of these have cells.
func TestHeapRunOfMostArrays(t *testing.T) {
	all := slices.Repeat([]impl.Var{{Set: true, Value: scalar(4)}}, 26)
	code := slices.Insert(deepCode(30), 30, setInstr('Z'))
	then := setIn(all, "Z", scalar(3))
	wantRoomFor(t, code, all, 60, 2*57)
	for _, picks := range eachPick() {
		wantRoomRun(t, code, all, 60, 2*57, picks, outcome{scalar(3 - 29*3), then, impl.ErNone, 0})
		wantRoomRun(t, code, all, 60, 2*57-1, picks, outcome{impl.Array{}, all, impl.ErFull, 29})
		wantRoomRun(t, code, all, 60, 6000, picks, outcome{scalar(3 - 29*3), then, impl.ErNone, 0})
	}
	wantCourse(t, code, all, 60, 0, allPicks)
	wantCourse(t, deepCode(30), impl.VarsNew(), 60, 0, allPicks)
	if deep := impl.CodeDeep(code); deep != 30 || impl.MaxCells < 26+deep+1 {
		t.Error("the test itself has not the most arrays:", deep)
	}
	// Vectors without numbers have words, too.
	empty := slices.Repeat([]impl.Var{{Set: true, Value: vector()}}, 26)
	joined := append(slices.Repeat(codeOf(loadInstr('K')), 30), slices.Repeat(codeOf(twoInstr(plainFun(','))), 29)...)
	wantRoomFor(t, joined, empty, 60, 2*57)
	wantRoomRun(t, joined, empty, 60, 2*57, allPicks, outcome{vector(), empty, impl.ErNone, 1})
}

// A bit of picks speaks for several instructions from the 32nd one on.
func TestHeapRunPicks(t *testing.T) {
	vars := slices.Repeat([]impl.Var{{Set: true, Value: scalar(3)}}, 26)
	draw, codes := drawing(41), map[int]int{}
	for _, count := range []int{1, 2, 30, 31, 32, 33, 59, 60} {
		for turn, line := range linesOfNodes(count) {
			code := wantedCode(lineTree(t, line).Nodes)
			want, need := runOf(code, vars, 60), impl.RoomFor(code, vars, 60)
			picks := append(eachPick(), draw(allPicks), draw(1<<16)<<15, allPicks-1<<draw(31))
			for _, x := range picks {
				wantRoomRun(t, code, vars, 60, need, x, want)
				wantRoomRun(t, code, vars, 60, need+draw(9), x, want)
				wantRoomRun(t, code, vars, 60, need-1, x, roomRunOf(code, vars, 60, need-1, 0))
			}
			if want.code == impl.ErNone {
				wantRoomRun(t, code, vars, count-1, need, picks[turn%len(picks)], outcome{impl.Array{}, vars, impl.ErSteps, 0})
			}
			codes[want.code]++
		}
	}
	if codes[impl.ErNone] < 40 || len(codes) < 2 {
		t.Error("the test itself hardly has lines that come to something:", codes)
	}
}

func wrongRooms() []int {
	return []int{-1, -2, -6000, -1 << 31, -1 << 32, math.MinInt, 6001, 6002, 1 << 16, 1 << 31, 1 << 32, 1<<32 + 20, math.MaxInt}
}

func wrongPicks() []int {
	return []int{-1, -2, -31, -1 << 31, -1<<31 - 1, -1 << 32, math.MinInt, 1 << 31, 1<<31 + 1, 1 << 32, 1<<32 + 1, 1 << 62, math.MaxInt}
}

// What is not right counts ahead of every code, of no room and of no steps, and
// nothing is answered beside it.
func TestHeapRunBad(t *testing.T) {
	bad := outcome{code: impl.ErBad}
	right := [][]impl.Instr{codeOf(numInstr(1)), codeOf(numInstr(2), setInstr('A')), codeOf(loadInstr('Q')), codeOf(numInstr(0), numInstr(1), twoInstr(plainFun('%')))}
	for _, vars := range append(varsToTry(), manyWords(7904)) {
		for _, code := range right {
			for _, steps := range []int{0, 1, 100, math.MaxInt} {
				for _, room := range wrongRooms() {
					wantRoomRun(t, code, vars, steps, room, 0, bad)
					wantRoomRun(t, code, vars, steps, room, allPicks, bad)
				}
				for _, picks := range wrongPicks() {
					for _, room := range []int{0, 1, 30, 6000, -1, 6001} {
						wantRoomRun(t, code, vars, steps, room, picks, bad)
					}
				}
				for _, room := range []int{0, 6000} {
					for _, picks := range []int{0, allPicks} {
						if got := roomRunOf(code, vars, steps, room, picks); got.code == impl.ErBad || len(got.vars) != 26 {
							t.Error("right, but refused:", code, vars, steps, room, picks, got)
						}
					}
				}
			}
			for _, steps := range []int{-1, -2, -1 << 32, math.MinInt} {
				wantRoomFor(t, code, vars, steps, -1)
				for _, room := range []int{0, 6000, -1} {
					wantRoomRun(t, code, vars, steps, room, 0, bad)
				}
			}
		}
	}
	for _, steps := range []int{-1, 0, 1, 100, math.MaxInt} {
		for _, room := range []int{0, 20, 6000, -1} {
			for _, code := range append(wrongCodesToTry(), right...) {
				for _, vars := range wrongVarsToTry() {
					wantRoomRun(t, code, vars, steps, room, 0, bad)
					wantRoomFor(t, code, vars, steps, -1)
				}
			}
			for _, code := range wrongCodesToTry() {
				for _, vars := range append(varsToTry(), manyWords(7904)) {
					wantRoomRun(t, code, vars, steps, room, 3, bad)
					wantRoomFor(t, code, vars, steps, -1)
				}
			}
		}
	}
}

// Letters that are not Set may have lists of no numbers.
func TestHeapRunOfEmptyLists(t *testing.T) {
	empty := slices.Repeat([]impl.Var{{Value: impl.Array{Shape: []int{}, Data: []int{}}}}, 26)
	wantRoomRun(t, codeOf(numInstr(1)), empty, 1, 2, 0, outcome{scalar(1), impl.VarsNew(), impl.ErNone, 0})
	wantRoomRun(t, codeOf(numInstr(1)), empty, 1, 1, 0, outcome{impl.Array{}, impl.VarsNew(), impl.ErFull, 0})
	wantRoomRun(t, codeOf(loadInstr('A')), empty, 1, 0, 0, outcome{impl.Array{}, impl.VarsNew(), impl.ErValue, 0})
	wantRoomFor(t, codeOf(loadInstr('A')), empty, 1, 0)
}
