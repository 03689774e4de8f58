package tests

import (
	"math"
	"slices"
	"testing"

	"loop.example/g00182/impl"
)

const allPicks = 2147483647

func roomRunOf(code []impl.Instr, vars []impl.Var, steps int, room int, picks int) outcome {
	array, then, how, left := impl.HeapRun(code, vars, steps, room, picks)
	return outcome{array, then, how, left}
}

// wordsIn counts the words of all arrays that a machine has, each by itself.
func wordsIn(m impl.Machine) int {
	count := 0
	for _, a := range m.Stack {
		count += len(wordsFor(a))
	}
	for _, v := range m.Vars {
		if v.Set {
			count += len(wordsFor(v.Value))
		}
	}
	return count
}

// A course is how code goes where there is always room, and how many words are
// in use whenever arrays have been put: the letters, and what each instruction
// leaves, beside all that it takes.
type course struct {
	end   outcome
	steps int
	needs []int
	vars  []impl.Var
}

// courseOf goes by the model of the machine, and has no memory.
func courseOf(code []impl.Instr, vars []impl.Var, steps int) course {
	m := impl.Machine{Vars: vars, Steps: steps}
	if !wantedMachineOk(code, m) {
		return course{end: outcome{code: impl.ErBad}}
	}
	c := course{steps: steps, needs: []int{wordsIn(m)}, vars: vars}
	for m.Code == impl.ErNone && m.At < len(code) {
		next := wantedStep(code, m)
		if next.Code == impl.ErNone {
			c.needs = append(c.needs, wordsIn(m)+len(wordsFor(next.Stack[len(next.Stack)-1])))
		}
		m = next
	}
	c.end = outcome{impl.Array{}, vars, m.Code, m.Steps}
	if m.Code == impl.ErNone {
		c.end.array, c.end.vars = m.Stack[0], m.Vars
	}
	return c
}

// within is how it ends in a memory of that room.
func (c course) within(room int) outcome {
	for i, need := range c.needs {
		if need > room {
			return outcome{impl.Array{}, c.vars, impl.ErFull, c.steps - i}
		}
	}
	return c.end
}

// room is what RoomFor tells.
func (c course) room() int {
	if c.end.code == impl.ErBad || slices.Max(c.needs) > 6000 {
		return -1
	}
	return slices.Max(c.needs)
}

func wantRoomRun(t *testing.T, code []impl.Instr, vars []impl.Var, steps int, room int, picks int, want outcome) {
	t.Helper()
	if got := roomRunOf(code, vars, steps, room, picks); !sameOutcome(got, want) {
		t.Errorf("HeapRun(%v, %v, %d, %d, %d) = %v; want %v", code, vars, steps, room, picks, got, want)
	}
}

func wantRoomFor(t *testing.T, code []impl.Instr, vars []impl.Var, steps int, want int) {
	t.Helper()
	if got := impl.RoomFor(code, vars, steps); got != want {
		t.Errorf("RoomFor(%v, %v, %d) = %d; want %d", code, vars, steps, got, want)
	}
}

func somePicks() []int {
	return []int{0, 1, 2, 5, 1 << 30, 0x2AAAAAAA, 0x55555555, 1234567890, allPicks - 1, allPicks}
}

func eachPick() []int {
	list := []int{0, allPicks}
	for bit := range 31 {
		list = append(list, 1<<bit)
	}
	return list
}

// wantCourse asks for the run with these picks, in rooms about each need, and
// for the least room.
func wantCourse(t *testing.T, code []impl.Instr, vars []impl.Var, steps int, picks ...int) course {
	t.Helper()
	c := courseOf(code, vars, steps)
	wantRoomFor(t, code, vars, steps, c.room())
	rooms := []int{0, 1, 6000}
	for _, need := range c.needs {
		rooms = append(rooms, need-1, need)
	}
	slices.Sort(rooms)
	for _, room := range slices.Compact(rooms) {
		if room < 0 || room > 6000 {
			continue
		}
		for _, pick := range picks {
			wantRoomRun(t, code, vars, steps, room, pick, c.within(room))
		}
	}
	return c
}

// wantRoomLine asks what a line comes to with that room and with more, for
// which it is just enough, and that with a word less it is full at the
// instruction of that number, counted from 1 on; nought are the letters.
func wantRoomLine(t *testing.T, text string, vars []impl.Var, array impl.Array, then []impl.Var, need int, at int) {
	t.Helper()
	code := wantedCode(lineTree(t, text).Nodes)
	for _, steps := range []int{len(code), len(code) + 1, 100, math.MaxInt} {
		wantRoomFor(t, code, vars, steps, need)
		for _, picks := range somePicks() {
			for _, room := range []int{need, need + 1, need + 2, 2 * need, 6000} {
				wantRoomRun(t, code, vars, steps, room, picks, outcome{array, then, impl.ErNone, steps - len(code)})
			}
			wantRoomRun(t, code, vars, steps, need-1, picks, outcome{impl.Array{}, vars, impl.ErFull, steps - at})
		}
	}
	// For want of steps it ends ahead of that instruction, or behind it.
	for steps := range len(code) {
		short := outcome{impl.Array{}, vars, impl.ErSteps, 0}
		wantRoomRun(t, code, vars, steps, need, allPicks, short)
		if steps >= at {
			short = outcome{impl.Array{}, vars, impl.ErFull, steps - at}
		}
		wantRoomRun(t, code, vars, steps, need-1, allPicks, short)
	}
	wantCourse(t, code, vars, 60, 0, allPicks)
}

// wantRoomEnd asks for a code at the instruction of that number, counted from 1
// on, with just the room that the ones ahead of it need.
func wantRoomEnd(t *testing.T, text string, vars []impl.Var, how int, at int, need int) {
	t.Helper()
	code := wantedCode(lineTree(t, text).Nodes)
	for _, steps := range []int{at, at + 1, 100} {
		wantRoomFor(t, code, vars, steps, need)
		for _, picks := range somePicks() {
			for _, room := range []int{need, need + 1, need + 2, need + 3, 6000} {
				wantRoomRun(t, code, vars, steps, room, picks, outcome{impl.Array{}, vars, how, steps - at})
			}
			if need > 0 {
				full := roomRunOf(code, vars, steps, need-1, picks)
				if full.code != impl.ErFull || !sameVars(full.vars, vars) || full.left <= steps-at {
					t.Errorf("%q with %d words: %v", text, need-1, full)
				}
			}
		}
	}
	wantCourse(t, code, vars, at-1, 0, allPicks)
}

func TestHeapRunEachKind(t *testing.T) {
	none, some := impl.VarsNew(), someVars()
	wantRoomLine(t, "7", none, scalar(7), none, 2, 1)
	wantRoomLine(t, "7 8 _9", none, vector(7, 8, -9), none, 5, 1)
	// The letters of some have 18 words.
	wantRoomLine(t, "A", some, scalar(5), some, 20, 1)
	wantRoomLine(t, "B", some, vector(1, 2, 3), some, 23, 1)
	wantRoomLine(t, "C", some, inShape([]int{2, 2}, 1, 2, 3, 4), some, 25, 1)
	wantRoomLine(t, "D", some, vector(), some, 20, 1)
	wantRoomLine(t, "Z", some, scalar(-top), some, 20, 1)
	wantRoomLine(t, "E : 7", none, scalar(7), varsWith("E", scalar(7)), 4, 2)
	wantRoomLine(t, "A : 7 8", some, vector(7, 8), setIn(some, "A", vector(7, 8)), 26, 2)
	wantRoomLine(t, "- 7", none, scalar(-7), none, 4, 2)
	wantRoomLine(t, "i 4", none, vector(0, 1, 2, 3), none, 8, 2)
	wantRoomLine(t, "+ / i 4", none, scalar(6), none, 8, 2)
	wantRoomLine(t, "9 - 7", none, scalar(2), none, 6, 3)
	wantRoomLine(t, "1 2 , 3 4", none, vector(1, 2, 3, 4), none, 14, 3)
	wantRoomLine(t, "2 3 # 5", none, inShape([]int{2, 3}, 5, 5, 5, 5, 5, 5), none, 15, 3)
	wantRoomLine(t, "2 1 2 # 5", none, inShape([]int{2, 1, 2}, 5, 5, 5, 5), none, 15, 3)
	wantRoomLine(t, "9 - 4 - 1", none, scalar(6), none, 6, 3)
	wantRoomLine(t, "( 9 - 4 ) - 1", none, scalar(4), none, 8, 4)
	wantRoomLine(t, "( i 4 ) + A : 5", none, vector(5, 6, 7, 8), varsWith("A", scalar(5)), 16, 5)
	wantRoomLine(t, "( i 3 ) o * 1 2", none, inShape([]int{3, 2}, 0, 0, 1, 2, 2, 4), none, 18, 4)
	wantRoomLine(t, "1 2 3 + . * 4 5 6", none, scalar(32), none, 12, 3)
}

// Letters that are set, asked for again, and set twice: each has an array of
// its own, and so has the stack.
func TestHeapRunLetters(t *testing.T) {
	none, one := impl.VarsNew(), varsWith("A", scalar(1))
	only := func(x int) []impl.Var { return varsWith("A", scalar(x)) }
	wantRoomLine(t, "A + A : 4", none, scalar(8), only(4), 8, 4)
	wantRoomLine(t, "A + A : 4", one, scalar(8), only(4), 8, 4)
	wantRoomLine(t, "( A : 4 ) + A", one, scalar(5), only(4), 8, 3)
	wantRoomLine(t, "( A : 7 ) , A : 2", none, vector(7, 2), only(7), 10, 5)
	wantRoomLine(t, "A : A", one, scalar(1), only(1), 6, 2)
	wantRoomLine(t, "A : A : A", one, scalar(1), only(1), 6, 2)
	wantRoomLine(t, "A : B : C : 5 6", none, vector(5, 6), varsWith("ABC", vector(5, 6), vector(5, 6), vector(5, 6)), 16, 4)
	wantRoomLine(t, "A : B : C : 5", one, scalar(5), varsWith("ABC", scalar(5), scalar(5), scalar(5)), 10, 4)
	wantRoomLine(t, "A : A , A : A , A", one, vector(1, 1, 1, 1), varsWith("A", vector(1, 1, 1, 1)), 18, 6)
	all := slices.Repeat([]impl.Var{{Set: true, Value: vector(6, 7)}}, 26)
	code := codeOf(numInstr(6, 7))
	for letter := byte('A'); letter <= 'Z'; letter++ {
		code = append(code, setInstr(letter))
	}
	for _, vars := range append(varsToTry(), all) {
		wantRoomRun(t, code, vars, 30, 6000, allPicks, outcome{vector(6, 7), all, impl.ErNone, 3})
		wantCourse(t, code, vars, 30, 0, allPicks)
	}
	wantRoomFor(t, code, none, 30, 27*4)
	wantRoomFor(t, code, all, 30, 28*4)
	for letter := byte('A'); letter <= 'Z'; letter++ {
		load, but := codeOf(loadInstr(letter)), copiedVars(all)
		but[letter-'A'] = impl.Var{}
		wantRoomRun(t, load, all, 1, 27*4, 0, outcome{vector(6, 7), all, impl.ErNone, 0})
		wantRoomRun(t, load, all, 1, 27*4-1, 0, outcome{impl.Array{}, all, impl.ErFull, 0})
		wantRoomRun(t, load, but, 1, 25*4, 0, outcome{impl.Array{}, but, impl.ErValue, 0})
		wantRoomRun(t, load, but, 1, 25*4-1, 0, outcome{impl.Array{}, but, impl.ErFull, 1})
	}
}

func TestHeapRunLineByLine(t *testing.T) {
	wantTold(t, []told{
		{"A", impl.Array{}, impl.ErValue}, {"A : i 4", vector(0, 1, 2, 3), 0}, {"+ / A", scalar(6), 0}, {"B : 2 2 # A", inShape([]int{2, 2}, 0, 1, 2, 3), 0}, {"A : B + . * B", inShape([]int{2, 2}, 2, 3, 6, 11), 0},
		{"A : 1 , A : 9 % 0", impl.Array{}, impl.ErDomain}, {"A", inShape([]int{2, 2}, 2, 3, 6, 11), 0}, {"C : i 40", impl.Array{}, impl.ErFull}, {"C", impl.Array{}, impl.ErValue}, {"( i 15 ) , A : 5", impl.Array{}, impl.ErFull},
		{"B : A : 0 # 0", vector(), 0}, {"+ / i 20", scalar(190), 0}, {"A , 3", vector(3), 0},
	}, varsWith("AB", vector(), vector()), func(code []impl.Instr, vars []impl.Var) outcome {
		return roomRunOf(code, vars, 100, 40, 0x12345678)
	})
}

// What is put is put ahead of dropping what it takes: where the new one has
// room only without the old one it is full.
func TestHeapRunPutsAheadOfDropping(t *testing.T) {
	full := func(code []impl.Instr, vars []impl.Var, left int, from int, to int) {
		t.Helper()
		for room := from; room < to; room++ {
			for _, picks := range eachPick() {
				wantRoomRun(t, code, vars, 10, room, picks, outcome{impl.Array{}, vars, impl.ErFull, left})
			}
		}
		wantRoomFor(t, code, vars, 10, to)
		if got := roomRunOf(code, vars, 10, to, 0); got.code != impl.ErNone {
			t.Errorf("%v with %d words: %v", code, to, got)
		}
	}
	six, one := varsWith("A", vector(1, 2, 3, 4, 5, 6)), numInstr(9)
	// OpSet: the letter has 8 words, what is on top 2, and what it is then 2.
	full(codeOf(one, setInstr('A')), six, 8, 10, 12)
	full(codeOf(one, setInstr('B')), six, 8, 10, 12)
	full(codeOf(one, setInstr('B')), impl.VarsNew(), 8, 2, 4)
	full(codeOf(numInstr(1, 2, 3, 4, 5, 6), setInstr('A')), six, 8, 16, 24)
	full(codeOf(numInstr(1, 2, 3, 4, 5, 6), setInstr('A')), varsWith("A", scalar(1)), 8, 10, 18)
	// Behind it the room of what the letter was is free again.
	full(codeOf(one, setInstr('A'), setInstr('A'), setInstr('A')), six, 8, 10, 12)
	wantRoomFor(t, codeOf(one, setInstr('A'), oneInstr(plainFun('-')), oneInstr(plainFun('-'))), six, 10, 12)
	// OpOne: it takes 5 words, and puts as many, or fewer, or more.
	full(codeOf(numInstr(7, 8, 9), oneInstr(plainFun('r'))), impl.VarsNew(), 8, 5, 10)
	full(codeOf(numInstr(7, 8, 9), oneInstr(operFun('+', '/'))), impl.VarsNew(), 8, 5, 7)
	full(codeOf(numInstr(7, 8, 9), oneInstr(plainFun('#'))), impl.VarsNew(), 8, 5, 8)
	full(codeOf(numInstr(9), oneInstr(plainFun('i'))), impl.VarsNew(), 8, 2, 13)
	full(codeOf(numInstr(7, 8, 9), oneInstr(plainFun('r')), oneInstr(plainFun('r')), oneInstr(plainFun('r'))), impl.VarsNew(), 8, 5, 10)
	// OpTwo: it takes 4 words and 4.
	full(codeOf(numInstr(7, 8), numInstr(1, 2), twoInstr(plainFun(','))), impl.VarsNew(), 7, 8, 14)
	full(codeOf(numInstr(7, 8), numInstr(1, 2), twoInstr(plainFun('+'))), impl.VarsNew(), 7, 8, 12)
	full(codeOf(numInstr(7, 8), numInstr(1, 2), twoInstr(innerFun('+', '*'))), impl.VarsNew(), 7, 8, 10)
	full(codeOf(numInstr(7, 8), numInstr(1, 2), twoInstr(operFun('+', 'o'))), impl.VarsNew(), 7, 8, 15)
	// Both that it takes are gone behind it.
	more := codeOf(numInstr(7, 8), numInstr(1, 2), twoInstr(plainFun('+')), numInstr(3, 4), twoInstr(plainFun('+')), numInstr(5, 6), twoInstr(plainFun('+')))
	full(more, impl.VarsNew(), 7, 8, 12)
	// OpNum and OpLoad take nothing, and what they put is there beside all else.
	full(codeOf(loadInstr('A')), six, 9, 8, 16)
	full(codeOf(loadInstr('A'), loadInstr('A'), twoInstr(plainFun('+'))), six, 7, 24, 32)
}
