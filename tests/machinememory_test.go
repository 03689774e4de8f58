package tests

import (
	"slices"
	"testing"

	"loop.example/g00182/impl"
)

// guardedMachine is what is handed in to MachineStep and Run, with spare room
// behind each of its lists, and what all of it must look like behind every
// call.
type guardedMachine struct {
	machine    impl.Machine
	code       guardedCode
	line       guardedLine
	arrays     []guarded
	stack, was []impl.Array
}

func guardMachine(code []impl.Instr, m impl.Machine) guardedMachine {
	g := guardedMachine{machine: m, code: guardCode(code), line: guardLine(impl.Tree{}, m.Vars)}
	for _, a := range m.Stack {
		array := guard(a)
		g.arrays = append(g.arrays, array)
		g.stack = append(g.stack, array.array)
	}
	g.stack = append(g.stack, scalar(63), vector(64, 65))
	g.was = copiedMachine(impl.Machine{Stack: g.stack}).Stack
	g.machine.Stack, g.machine.Vars = g.stack[:len(m.Stack)], g.line.vars
	return g
}

func (g guardedMachine) check(t *testing.T) {
	t.Helper()
	g.code.check(t)
	g.line.check(t)
	if !slices.EqualFunc(g.stack, g.was, alike) {
		t.Error("written into:", g.was, g.stack)
	}
	for _, array := range g.arrays {
		array.check(t)
	}
}

// scribble writes over all that was handed in.
func (g guardedMachine) scribble() {
	scribbleAllCode(g.code.room)
	g.line.scribble()
	for _, array := range g.arrays {
		scribble(array.shape)
		scribble(array.data)
	}
	scribbleStack(g.stack)
}

// scribbleStack writes over the arrays and the room behind them, but leaves
// what their lists were to be looked at.
func scribbleStack(stack []impl.Array) {
	all := stack[:cap(stack)]
	for i := range all {
		all[i] = vector(93, 94)
	}
	_ = append(stack, scalar(95))
}

// listsOfMachine has each list of numbers of a machine.
func listsOfMachine(m impl.Machine) [][]int {
	lists := listsOf(outcome{vars: m.Vars})
	for _, a := range m.Stack {
		lists = append(lists, a.Shape, a.Data)
	}
	return lists
}

func scribbleMachine(m impl.Machine) {
	for _, list := range listsOfMachine(m) {
		scribble(list)
	}
	scribbleVars(m.Vars)
	scribbleStack(m.Stack)
}

// wantListsApart asks that a write into any list of an answer, or behind it,
// turns no other one, nor another answer.
func wantListsApart(t *testing.T, answered func() [][]int) {
	t.Helper()
	var was [][]int
	for _, list := range answered() {
		was = append(was, slices.Clone(list))
	}
	for i := range was {
		lists := answered()
		scribble(lists[i])
		for j, list := range was {
			if j != i && !slices.Equal(lists[j], list) {
				t.Errorf("a write into list %d of the answer turns list %d: %v, %v", i, j, lists[j], list)
			}
		}
	}
	if !slices.EqualFunc(answered(), was, slices.Equal) {
		t.Error("a write into an answer turns another one:", was)
	}
}

// wantMachineApart asks the same of a machine, and of its letters and its
// stack beside its numbers.
func wantMachineApart(t *testing.T, answered func() impl.Machine) {
	t.Helper()
	wantListsApart(t, func() [][]int { return listsOfMachine(answered()) })
	was, m := copiedMachine(answered()), answered()
	letters := listsOf(outcome{vars: m.Vars})
	scribbleVars(m.Vars)
	if !slices.EqualFunc(m.Stack, was.Stack, alike) || !slices.EqualFunc(letters, listsOf(outcome{vars: was.Vars}), slices.Equal) {
		t.Error("a write into the letters turns the stack, or what they were:", m, was)
	}
	m = answered()
	stack := slices.Clone(m.Stack)
	scribbleStack(m.Stack)
	if !sameVars(m.Vars, was.Vars) || !slices.EqualFunc(stack, was.Stack, alike) {
		t.Error("a write into the stack turns the letters, or what it was:", m, stack, was)
	}
	if !sameMachine(answered(), was) {
		t.Error("a write into a machine turns another one:", answered(), was)
	}
}

// machinesForMemory are at each place of codes, with steps and without, with a
// code and without, and some are not right.
func machinesForMemory(code []impl.Instr, vars []impl.Var) []impl.Machine {
	var list []impl.Machine
	for i, m := range machinesAlong(code, vars, 4) {
		list = append(list, m)
		m.Steps = 0
		list = append(list, m)
		m.Code = 2 + i
		list = append(list, m)
		m.Stack = append(slices.Clone(m.Stack), vector(4))
		list = append(list, m)
	}
	return list
}

func TestMachineStepIsNewMemory(t *testing.T) {
	for _, code := range append(codesToStep(), codeOf(numInstr(1), numInstr(2)), nil) {
		for i, vars := range append(varsToTry(), setIn(someVars(), "Q", scalar(top+1))) {
			for j, m := range machinesForMemory(code, vars) {
				g := guardMachine(code, m)
				want := wantedStep(code, m)
				wantStep(t, g.code.code, g.machine, want)
				g.check(t)
				if (i+j)%3 == 0 {
					wantMachineApart(t, func() impl.Machine { return impl.MachineStep(g.code.code, g.machine) })
					g.check(t)
				}
				first, second := impl.MachineStep(g.code.code, g.machine), impl.MachineStep(g.code.code, g.machine)
				scribbleMachine(first)
				g.check(t)
				g.scribble()
				if !sameMachine(second, want) {
					t.Errorf("a machine shares memory with another one or with an argument: %v, %v", second, want)
				}
			}
		}
	}
}

// A machine that goes on by itself and one whose answers are written over, when
// they have been handed on, come to the same.
func TestMachineStepKeepsNothing(t *testing.T) {
	for turn, x := range tamedTrees(60) {
		code, vars := wantedCode(x.Nodes), varsToTry()[turn%5]
		want, m := impl.MachineNew(vars, 70), impl.MachineNew(vars, 70)
		for range code {
			want = wantedStep(code, want)
			next := impl.MachineStep(code, m)
			scribbleMachine(m)
			m = next
			if !sameMachine(m, want) {
				t.Fatalf("a write into a machine turns the one behind it: %v, %v", m, want)
			}
		}
	}
}

func TestMachineNewIsNewMemory(t *testing.T) {
	for _, vars := range append(varsToTry(), wrongVarsToTry()...) {
		for _, steps := range []int{5, -5} {
			g := guardLine(impl.Tree{}, vars)
			want := copiedMachine(impl.Machine{Vars: vars, Steps: steps})
			wantMachineApart(t, func() impl.Machine { return impl.MachineNew(g.vars, steps) })
			g.check(t)
			first, second := impl.MachineNew(g.vars, steps), impl.MachineNew(g.vars, steps)
			scribbleMachine(first)
			g.check(t)
			g.scribble()
			if !sameMachine(second, want) {
				t.Errorf("a machine shares memory with another one or with the letters: %v, %v", second, want)
			}
		}
	}
}

// codesToRun have lines that set letters to one array, or to those of others.
func codesToRun(t *testing.T) [][]impl.Instr {
	list := [][]impl.Instr{nil, codeOf(numInstr(1), numInstr(2)), codeOf(numInstr(1, 2), setInstr('Z'+1))}
	for _, x := range linesForOwnMemory(t) {
		if impl.TreeOk(x) {
			list = append(list, wantedCode(x.Nodes))
		}
	}
	return list
}

// wantOutcomeApart asks that a write into any list of the answer turns no other
// one, nor another answer.
func wantOutcomeApart(t *testing.T, answered func() outcome) {
	t.Helper()
	wantListsApart(t, func() [][]int { return listsOf(answered()) })
	got, was := answered(), copiedOutcome(answered())
	lists := listsOf(got)
	scribbleVars(got.vars)
	if !slices.EqualFunc(lists, listsOf(was), slices.Equal) {
		t.Errorf("a write into the letters turns what they were: %v, %v", lists, was)
	}
	if !sameOutcome(answered(), was) {
		t.Errorf("a write into an answer turns another one: %v, %v", answered(), was)
	}
}

func wantOwnRun(t *testing.T, code []impl.Instr, vars []impl.Var, steps int) {
	t.Helper()
	wantOutcomeApart(t, func() outcome { return runOf(code, vars, steps) })
}

// wantOutcomeKept writes over an answer, and over what was handed in: neither
// may turn another answer, nor the first one what was handed in.
func wantOutcomeKept(t *testing.T, g guardedMachine, want outcome, answered func() outcome) {
	t.Helper()
	first, second := answered(), answered()
	g.check(t)
	for _, list := range listsOf(first) {
		scribble(list)
	}
	scribbleVars(first.vars)
	g.check(t)
	g.scribble()
	if !sameOutcome(second, want) {
		t.Errorf("an answer shares memory with another one or with an argument: %v, %v", second, want)
	}
}

func TestRunIsNewMemory(t *testing.T) {
	for turn, code := range codesToRun(t) {
		for i, vars := range append(varsToTry(), make([]impl.Var, 25)) {
			for _, steps := range []int{60, turn % 5, -1} {
				g := guardMachine(code, impl.Machine{Vars: vars})
				want := wantedRun(code, vars, steps)
				wantRun(t, g.code.code, g.line.vars, steps, want)
				g.check(t)
				if (turn+i)%2 == 0 {
					wantOwnRun(t, g.code.code, g.line.vars, steps)
					g.check(t)
				}
				wantOutcomeKept(t, g, want, func() outcome { return runOf(g.code.code, g.line.vars, steps) })
			}
		}
	}
}

// One list may stand in many places of what is handed in.
func TestMachineOfOneList(t *testing.T) {
	one, two := []int{1}, []int{2, 5}
	shared, pair := impl.Array{Shape: one, Data: one}, impl.Array{Shape: two[:1], Data: two}
	vars := varsWith("ABCD", shared, shared, pair, impl.Array{Shape: one[:0], Data: one})
	num := impl.Instr{Op: impl.OpNum, Nums: two}
	stack := []impl.Array{pair, shared, pair}
	code := codeOf(num, num, num, setInstr('A'), twoInstr(plainFun(',')), loadInstr('C'), twoInstr(plainFun(',')), twoInstr(plainFun(',')))
	for _, m := range []impl.Machine{
		{At: 3, Stack: stack, Vars: vars, Steps: 4}, {At: 4, Stack: stack, Vars: vars, Steps: 4}, {At: 5, Stack: stack[:2], Vars: vars, Steps: 4}, {At: 6, Stack: stack, Vars: vars, Steps: 4},
		{At: 3, Stack: stack, Vars: vars}, {At: 3, Stack: stack, Vars: vars, Code: 4}, {At: 8, Stack: stack[:1], Vars: vars},
	} {
		wantStepAsModel(t, code, m)
		wantMachineApart(t, func() impl.Machine { return impl.MachineStep(code, m) })
	}
	wantRunAsModel(t, code, vars, 9)
	wantOwnRun(t, code, vars, 9)
	wantOwnRun(t, code, vars, 2)
	same := slices.Repeat([]impl.Var{{Set: true, Value: pair}}, 26)
	wantMachineApart(t, func() impl.Machine { return impl.MachineNew(same, 3) })
	wantOwnRun(t, codeOf(loadInstr('Z')), same, 1)
	wantOwnRun(t, codeOf(loadInstr('Z')), same, 0)
	if !slices.Equal(one, []int{1}) || !slices.Equal(two, []int{2, 5}) || !slices.EqualFunc(stack, []impl.Array{pair, shared, pair}, alike) {
		t.Error("written into:", one, two, stack)
	}
}
