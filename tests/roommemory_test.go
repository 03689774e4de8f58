package tests

import (
	"slices"
	"testing"

	"loop.example/g00182/impl"
)

func wantOwnRoomRun(t *testing.T, code []impl.Instr, vars []impl.Var, steps int, room int, picks int) {
	t.Helper()
	wantOutcomeApart(t, func() outcome { return roomRunOf(code, vars, steps, room, picks) })
}

// roomsForMemory are enough, just enough, too few, and none.
func roomsForMemory(code []impl.Instr, vars []impl.Var, steps int) []int {
	need := impl.RoomFor(code, vars, steps)
	return []int{6000, need, need - 1, 0, 6001}
}

func TestHeapRunIsNewMemory(t *testing.T) {
	for turn, code := range codesToRun(t) {
		for i, vars := range append(varsToTry(), make([]impl.Var, 25)) {
			for j, steps := range []int{60, turn % 5, -1} {
				for k, room := range roomsForMemory(code, vars, steps) {
					picks := []int{0, allPicks, 0x35353535}[(turn+i+j+k)%3]
					g := guardMachine(code, impl.Machine{Vars: vars})
					want := copiedOutcome(roomRunOf(code, vars, steps, room, picks))
					if (turn+i+k)%4 == 0 {
						wantOwnRoomRun(t, g.code.code, g.line.vars, steps, room, picks)
						g.check(t)
					}
					wantOutcomeKept(t, g, want, func() outcome { return roomRunOf(g.code.code, g.line.vars, steps, room, picks) })
				}
			}
		}
	}
}

func TestRoomForWritesIntoNothing(t *testing.T) {
	for _, code := range append(codesToRun(t), wrongCodesToTry()...) {
		for _, vars := range append(varsToTry(), wrongVarsToTry()...) {
			g := guardMachine(code, impl.Machine{Vars: vars})
			want := courseOf(code, vars, 60).room()
			for range 2 {
				wantRoomFor(t, g.code.code, g.line.vars, 60, want)
				g.check(t)
			}
		}
	}
}

// One list may stand in many places of what is handed in.
func TestHeapRunOfOneList(t *testing.T) {
	one, two := []int{1}, []int{2, 5}
	shared, pair := impl.Array{Shape: one, Data: one}, impl.Array{Shape: two[:1], Data: two}
	vars := varsWith("ABCD", shared, shared, pair, impl.Array{Shape: one[:0], Data: one})
	num := impl.Instr{Op: impl.OpNum, Nums: two}
	code := codeOf(num, num, num, setInstr('A'), setInstr('B'), twoInstr(plainFun(',')), loadInstr('C'), twoInstr(plainFun(',')), twoInstr(plainFun(',')))
	c := wantCourse(t, code, vars, 9, 0, allPicks)
	if c.end.code != impl.ErNone {
		t.Error("the test itself does not come to the end:", c.end)
	}
	for _, room := range []int{6000, c.room(), c.room() - 1, 3} {
		wantOwnRoomRun(t, code, vars, 9, room, 0)
		wantOwnRoomRun(t, code, vars, 2, room, 2)
	}
	same := slices.Repeat([]impl.Var{{Set: true, Value: pair}}, 26)
	wantOwnRoomRun(t, codeOf(loadInstr('Z')), same, 1, 6000, 0)
	wantOwnRoomRun(t, codeOf(loadInstr('Z'), setInstr('A'), setInstr('B')), same, 3, 6000, 7)
	wantOwnRoomRun(t, codeOf(loadInstr('Z')), same, 1, 9, 0)
	if !slices.Equal(one, []int{1}) || !slices.Equal(two, []int{2, 5}) {
		t.Error("written into:", one, two)
	}
}

// No run leaves anything to the next one: in turn they come to the same as
// alone.
func TestHeapRunKeepsNothing(t *testing.T) {
	codes := codesToRun(t)
	run := func(i int) outcome {
		return roomRunOf(codes[i], varsToTry()[i%5], 60, 30+i*7, allPicks-i)
	}
	var want []outcome
	for i := range codes {
		want = append(want, copiedOutcome(run(i)))
	}
	for turn := range 3 {
		for i := range codes {
			j := (i*(2*turn+1) + turn) % len(codes)
			if got := run(j); !sameOutcome(got, want[j]) {
				t.Errorf("code %d comes to %v; it came to %v", j, got, want[j])
			}
		}
	}
}
