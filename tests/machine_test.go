package tests

import (
	"math"
	"slices"
	"testing"

	"loop.example/g00182/impl"
)

func sameMachine(a impl.Machine, b impl.Machine) bool {
	return a.At == b.At && slices.EqualFunc(a.Stack, b.Stack, alike) && sameVars(a.Vars, b.Vars) && a.Steps == b.Steps && a.Code == b.Code
}

func stackOf(list ...impl.Array) []impl.Array { return list }

func copiedMachine(m impl.Machine) impl.Machine {
	m.Stack, m.Vars = slices.Clone(m.Stack), copiedVars(m.Vars)
	for i, a := range m.Stack {
		m.Stack[i] = copied(a)
	}
	return m
}

// wantedLeft goes back from an instruction over all that it rests on, and so on
// up to the first one, and counts no stack.
func wantedLeft(code []impl.Instr, at int) int {
	count := 0
	for at > 0 {
		at = firstOwn(code, at-1)
		count++
	}
	return count
}

func wantedMachineOk(code []impl.Instr, m impl.Machine) bool {
	if !wantedCodeOk(code) || m.At < 0 || m.At > len(code) || !wantedVarsOk(m.Vars) || m.Steps < 0 {
		return false
	}
	for _, a := range m.Stack {
		if !impl.ArrayOk(a) {
			return false
		}
	}
	return len(m.Stack) == wantedLeft(code, m.At)
}

// wantedTop is what an instruction takes from the end of the stack, what is on
// top behind it, and its code.
func wantedTop(in impl.Instr, stack []impl.Array, vars []impl.Var) (int, impl.Array, int) {
	last := len(stack) - 1
	switch in.Op {
	case impl.OpNum:
		if len(in.Nums) == 1 {
			return 0, scalar(in.Nums[0]), impl.ErNone
		}
		return 0, vector(in.Nums...), impl.ErNone
	case impl.OpLoad:
		if !vars[in.A].Set {
			return 0, impl.Array{}, impl.ErValue
		}
		return 0, vars[in.A].Value, impl.ErNone
	case impl.OpSet:
		return 1, stack[last], impl.ErNone
	case impl.OpOne:
		array, code := wantedDoOne(in.F).does(stack[last], stack[last])
		return 1, array, code
	}
	array, code := wantedDoTwo(in.F).does(stack[last], stack[last-1])
	return 2, array, code
}

func wantedStep(code []impl.Instr, m impl.Machine) impl.Machine {
	next := copiedMachine(m)
	switch {
	case !wantedMachineOk(code, m):
		return impl.Machine{Code: impl.ErBad}
	case m.Code != impl.ErNone || m.At == len(code):
		return next
	case m.Steps == 0:
		next.Code = impl.ErSteps
		return next
	}
	next.Steps--
	takes, array, how := wantedTop(code[m.At], m.Stack, m.Vars)
	if how != impl.ErNone {
		next.Code = how
		return next
	}
	next.At++
	next.Stack = append(next.Stack[:len(m.Stack)-takes], copied(array))
	if code[m.At].Op == impl.OpSet {
		next.Vars[code[m.At].A] = impl.Var{Set: true, Value: copied(array)}
	}
	return next
}

func wantStep(t *testing.T, code []impl.Instr, m impl.Machine, want impl.Machine) {
	t.Helper()
	if got := impl.MachineStep(code, m); !sameMachine(got, want) {
		t.Errorf("MachineStep(%v, %v) = %v; want %v", code, m, got, want)
	}
}

func wantStepAsModel(t *testing.T, code []impl.Instr, m impl.Machine) impl.Machine {
	t.Helper()
	want := wantedStep(code, m)
	wantStep(t, code, m, want)
	return want
}

func wantNoStep(t *testing.T, code []impl.Instr, m impl.Machine) {
	t.Helper()
	wantStep(t, code, m, impl.Machine{Code: impl.ErBad})
}

// withCode is a machine that came to a code, for so many steps.
func withCode(m impl.Machine, code int, steps int) impl.Machine {
	m.Code, m.Steps = code, m.Steps-steps
	return m
}

func TestMachineNew(t *testing.T) {
	wrong := [][]impl.Var{nil, {}, make([]impl.Var, 25), make([]impl.Var, 27), setIn(someVars(), "B", scalar(top+1)), {{Value: vector(1)}}, {{Set: true}}}
	for _, vars := range append(varsToTry(), wrong...) {
		for _, steps := range []int{0, 1, 2, 100, top, 1 << 32, math.MaxInt, -1, -2, -1 << 32, math.MinInt} {
			if m := impl.MachineNew(vars, steps); !sameMachine(m, impl.Machine{Vars: vars, Steps: steps}) {
				t.Errorf("MachineNew(%v, %d) = %v", vars, steps, m)
			}
		}
	}
}

// One step of each kind, with what the code itself would have left ahead of it,
// and with other arrays.
func TestMachineStepEachKind(t *testing.T) {
	some, minus, with := someVars(), plainFun('-'), numInstr(2)
	for _, c := range []struct {
		code  []impl.Instr
		at    int
		stack []impl.Array
		want  []impl.Array
		then  []impl.Var
	}{
		{codeOf(numInstr(7)), 0, nil, stackOf(scalar(7)), some},
		{codeOf(numInstr(7, -8)), 0, nil, stackOf(vector(7, -8)), some},
		{codeOf(with, numInstr(7), twoInstr(minus)), 1, stackOf(vector(5, 6)), stackOf(vector(5, 6), scalar(7)), some},
		{codeOf(loadInstr('A')), 0, nil, stackOf(scalar(5)), some},
		{codeOf(loadInstr('D')), 0, nil, stackOf(vector()), some},
		{codeOf(with, loadInstr('C'), twoInstr(minus)), 1, stackOf(scalar(2)), stackOf(scalar(2), inShape([]int{2, 2}, 1, 2, 3, 4)), some},
		{codeOf(with, setInstr('E')), 1, stackOf(scalar(2)), stackOf(scalar(2)), setIn(some, "E", scalar(2))},
		{codeOf(with, setInstr('A')), 1, stackOf(vector(8, 9)), stackOf(vector(8, 9)), setIn(some, "A", vector(8, 9))},
		{codeOf(with, with, setInstr('Z'), twoInstr(minus)), 2, stackOf(scalar(4), vector()), stackOf(scalar(4), vector()), setIn(some, "Z", vector())},
		{codeOf(with, oneInstr(minus)), 1, stackOf(scalar(2)), stackOf(scalar(-2)), some},
		{codeOf(with, oneInstr(operFun('+', '/'))), 1, stackOf(vector(4, 5, 6)), stackOf(scalar(15)), some},
		{codeOf(with, with, oneInstr(minus), twoInstr(minus)), 2, stackOf(scalar(3), vector(4, 5)), stackOf(scalar(3), vector(-4, -5)), some},
		{codeOf(with, with, twoInstr(minus)), 2, stackOf(scalar(2), scalar(10)), stackOf(scalar(8)), some},
		{codeOf(with, with, twoInstr(plainFun(','))), 2, stackOf(vector(1, 2), scalar(3)), stackOf(vector(3, 1, 2)), some},
		{codeOf(with, with, twoInstr(plainFun('#'))), 2, stackOf(scalar(9), vector(1, 2)), stackOf(inShape([]int{1, 2}, 9, 9)), some},
		{codeOf(with, with, with, twoInstr(minus), twoInstr(minus)), 3, stackOf(scalar(7), scalar(2), scalar(10)), stackOf(scalar(7), scalar(8)), some},
	} {
		m := impl.Machine{At: c.at, Stack: c.stack, Vars: some, Steps: 1}
		wantStep(t, c.code, m, impl.Machine{At: c.at + 1, Stack: c.want, Vars: c.then})
		m.Steps = math.MaxInt
		wantStep(t, c.code, m, impl.Machine{At: c.at + 1, Stack: c.want, Vars: c.then, Steps: math.MaxInt - 1})
		wantStepAsModel(t, c.code, m)
	}
}

// A line step by step, with all that the machine has behind each.
func TestMachineStepByStep(t *testing.T) {
	code, ok := impl.Compile(lineTree(t, "( A : 1 - A ) , B , A : i 3"))
	if !ok {
		t.Fatal("the test itself has no code")
	}
	three, less := vector(0, 1, 2), vector(1, 0, -1)
	bOf, ab := varsWith("B", scalar(6)), varsWith("AB", three, scalar(6))
	m := impl.MachineNew(bOf, 20)
	for i, want := range []impl.Machine{
		{Stack: stackOf(scalar(3)), Vars: bOf}, {Stack: stackOf(three), Vars: bOf}, {Stack: stackOf(three), Vars: ab},
		{Stack: stackOf(three, scalar(6)), Vars: ab}, {Stack: stackOf(vector(6, 0, 1, 2)), Vars: ab},
		{Stack: stackOf(vector(6, 0, 1, 2), three), Vars: ab}, {Stack: stackOf(vector(6, 0, 1, 2), three, scalar(1)), Vars: ab},
		{Stack: stackOf(vector(6, 0, 1, 2), less), Vars: ab}, {Stack: stackOf(vector(6, 0, 1, 2), less), Vars: setIn(ab, "A", less)},
		{Stack: stackOf(vector(1, 0, -1, 6, 0, 1, 2)), Vars: setIn(ab, "A", less)},
	} {
		want.At, want.Steps = i+1, 19-i
		wantStep(t, code, m, want)
		m = impl.MachineStep(code, m)
	}
	wantStep(t, code, m, copiedMachine(m))
	if m.At != len(code) {
		t.Error("the test itself stops ahead of the end:", m)
	}
}

// All letters are told apart.
func TestMachineStepLetters(t *testing.T) {
	for letter := byte('A'); letter <= 'Z'; letter++ {
		value := vector(int(letter), 1)
		only, but := varsWith(string(rune(letter)), value), slices.Repeat([]impl.Var{{Set: true, Value: scalar(3)}}, 26)
		but[letter-'A'] = impl.Var{}
		load, set := codeOf(loadInstr(letter)), codeOf(numInstr(1), setInstr(letter))
		wantStep(t, load, impl.MachineNew(only, 2), impl.Machine{At: 1, Stack: stackOf(value), Vars: only, Steps: 1})
		wantStep(t, load, impl.MachineNew(but, 2), impl.Machine{Vars: but, Steps: 1, Code: impl.ErValue})
		m := impl.Machine{At: 1, Stack: stackOf(value), Vars: impl.VarsNew(), Steps: 2}
		wantStep(t, set, m, impl.Machine{At: 2, Stack: m.Stack, Vars: only, Steps: 1})
		m.Vars = but
		wantStep(t, set, m, impl.Machine{At: 2, Stack: m.Stack, Vars: setIn(but, string(rune(letter)), value), Steps: 1})
	}
}

func TestMachineStepNums(t *testing.T) {
	vars := impl.VarsNew()
	for _, x := range rightNumbers() {
		wantStep(t, codeOf(numInstr(x)), impl.MachineNew(vars, 1), impl.Machine{At: 1, Stack: stackOf(scalar(x)), Vars: vars})
		wantStep(t, codeOf(numInstr(1, x)), impl.MachineNew(vars, 1), impl.Machine{At: 1, Stack: stackOf(vector(1, x)), Vars: vars})
	}
	for _, long := range []int{2, 3, 255, 256, 299, 300} {
		wantStep(t, codeOf(numInstr(numbered(long)...)), impl.MachineNew(vars, 1), impl.Machine{At: 1, Stack: stackOf(vector(numbered(long)...)), Vars: vars})
	}
	for _, x := range wrongNumbers() {
		wantNoStep(t, codeOf(numInstr(x)), impl.MachineNew(vars, 1))
	}
	for _, long := range []int{0, 301} {
		wantNoStep(t, codeOf(numInstr(numbered(long)...)), impl.MachineNew(vars, 1))
	}
}

// Each function, on arrays of which it has an answer, and of which it has a
// code: then nothing is taken but the step.
func TestMachineStepEachFunction(t *testing.T) {
	vars, codes := someVars(), map[int]int{}
	below := inShape([]int{2, 1}, 8, 9)
	look := func(code []impl.Instr, m impl.Machine, array impl.Array, how int) {
		codes[how]++
		if how != impl.ErNone {
			wantStep(t, code, m, withCode(m, how, 1))
			return
		}
		wantStep(t, code, m, impl.Machine{At: m.At + 1, Stack: stackOf(below, array), Vars: vars, Steps: m.Steps - 1})
	}
	right := slices.DeleteFunc(arraysToDo(), func(a impl.Array) bool { return !impl.ArrayOk(a) })
	for _, f := range funsOfOne() {
		code := codeOf(numInstr(1), numInstr(1), oneInstr(f), twoInstr(plainFun('-')))
		for _, b := range right {
			array, how := wantedDoOne(f).does(b, b)
			look(code, impl.Machine{At: 2, Stack: stackOf(below, b), Vars: vars, Steps: 3}, array, how)
		}
	}
	for _, f := range someFunsOfTwo() {
		code := codeOf(numInstr(1), numInstr(1), numInstr(1), twoInstr(f), twoInstr(plainFun('-')))
		for i, b := range right {
			for _, a := range []impl.Array{scalar(2), vector(0, 1), vector(-1, 1), b, right[(i+5)%len(right)]} {
				array, how := wantedDoTwo(f).does(a, b)
				look(code, impl.Machine{At: 3, Stack: stackOf(below, b, a), Vars: vars, Steps: 3}, array, how)
			}
		}
	}
	if len(codes) != 6 || codes[impl.ErBad] > 0 || codes[impl.ErNone] < 1000 {
		t.Error("the test itself hardly has each code:", codes)
	}
}

// Each code, with all that stays as it was, and what comes of another step.
func TestMachineStepCodesWrittenOut(t *testing.T) {
	some, num, minus := someVars(), numInstr(1), twoInstr(plainFun('-'))
	one := func(f impl.Fun) []impl.Instr { return codeOf(num, num, oneInstr(f), minus) }
	two := func(f impl.Fun) []impl.Instr { return codeOf(num, num, num, twoInstr(f), minus) }
	load := codeOf(num, num, loadInstr('Q'), minus, minus)
	for _, c := range []struct {
		code  []impl.Instr
		at    int
		stack []impl.Array
		how   int
	}{
		{load, 2, stackOf(scalar(4), vector(5, 6)), impl.ErValue},
		{one(plainFun('~')), 2, stackOf(scalar(4), scalar(2)), impl.ErDomain},
		{one(plainFun('i')), 2, stackOf(scalar(4), scalar(-1)), impl.ErDomain},
		{one(plainFun('i')), 2, stackOf(scalar(4), vector(1, 2)), impl.ErLength},
		{one(plainFun('g')), 2, stackOf(vector(4), scalar(4)), impl.ErRank},
		{one(plainFun('i')), 2, stackOf(scalar(4), scalar(301)), impl.ErLimit},
		{one(operFun('*', '/')), 2, stackOf(scalar(4), vector(top, 2)), impl.ErLimit},
		{one(operFun('%', '\\')), 2, stackOf(scalar(4), vector(2, 0)), impl.ErDomain},
		{two(plainFun('%')), 3, stackOf(scalar(4), scalar(0), scalar(6)), impl.ErDomain},
		{two(plainFun('+')), 3, stackOf(scalar(4), vector(1, 2), vector(1, 2, 3)), impl.ErLength},
		{two(plainFun('+')), 3, stackOf(scalar(4), vector(1, 2), inShape([]int{1, 2}, 1, 2)), impl.ErRank},
		{two(plainFun('@')), 3, stackOf(scalar(4), vector(1, 2), scalar(2)), impl.ErIndex},
		{two(plainFun('+')), 3, stackOf(scalar(4), scalar(1), scalar(top)), impl.ErLimit},
		{two(operFun('%', 'o')), 3, stackOf(scalar(4), vector(1, 0), vector(1, 2)), impl.ErDomain},
		{two(innerFun('+', '*')), 3, stackOf(scalar(4), vector(1, 0), vector(1, 2, 3)), impl.ErLength},
	} {
		for _, steps := range []int{1, 2, 50, math.MaxInt} {
			m := impl.Machine{At: c.at, Stack: c.stack, Vars: some, Steps: steps}
			ended := withCode(m, c.how, 1)
			wantStep(t, c.code, m, ended)
			wantStep(t, c.code, ended, ended)
		}
		m := impl.Machine{At: c.at, Stack: c.stack, Vars: some}
		ended := withCode(m, impl.ErSteps, 0)
		wantStep(t, c.code, m, ended)
		wantStep(t, c.code, ended, ended)
	}
}

// machinesAlong has a right machine at each At of right code.
func machinesAlong(code []impl.Instr, vars []impl.Var, steps int) []impl.Machine {
	var list []impl.Machine
	arrays := []impl.Array{scalar(1), vector(0, 1), scalar(0), inShape([]int{2, 2}, 1, 0, 0, 1), vector()}
	for at := range len(code) + 1 {
		m := impl.Machine{At: at, Vars: vars, Steps: steps}
		for i := range wantedLeft(code, at) {
			m.Stack = append(m.Stack, arrays[(at+i)%len(arrays)])
		}
		list = append(list, m)
	}
	return list
}

func codesToStep() [][]impl.Instr {
	return append(codesToSpoil(), deepCode(4), codeOf(numInstr(1), setInstr('A'), loadInstr('A'), setInstr('B'), twoInstr(plainFun(',')), oneInstr(plainFun('#'))),
		codeOf(loadInstr('B'), oneInstr(plainFun('r')), loadInstr('A'), loadInstr('C'), twoInstr(operFun('+', 'o')), setInstr('C'), twoInstr(plainFun('e'))))
}

func TestMachineStepAt(t *testing.T) {
	for _, code := range codesToStep() {
		for _, m := range machinesAlong(code, someVars(), 5) {
			if got := wantStepAsModel(t, code, m); got.Code == impl.ErBad {
				t.Error("the test itself has no right machine:", code, m)
			}
			right := m.At
			for _, at := range []int{-1, -2, -len(code), math.MinInt, -1 << 32, right + 1<<32, right - 1<<32, right + 1<<8, right + 60, len(code) + 1, len(code) + 2, 61, 62, 1 << 31, math.MaxInt} {
				if at < 0 || at > len(code) {
					m.At = at
					wantNoStep(t, code, m)
				}
			}
		}
	}
	// One array is left at several places here, so that At alone tells.
	code := codeOf(numInstr(2), oneInstr(plainFun('-')), setInstr('A'), oneInstr(plainFun('i')))
	vars, then := someVars(), setIn(someVars(), "A", scalar(4))
	for at, want := range []impl.Machine{1: {At: 2, Stack: stackOf(scalar(-4)), Vars: vars}, 2: {At: 3, Stack: stackOf(scalar(4)), Vars: then}, 3: {At: 4, Stack: stackOf(vector(0, 1, 2, 3)), Vars: vars}, 4: {At: 4, Stack: stackOf(scalar(4)), Vars: vars, Steps: 1}, 5: {Code: impl.ErBad}} {
		if at > 0 {
			wantStep(t, code, impl.Machine{At: at, Stack: stackOf(scalar(4)), Vars: vars, Steps: 1}, want)
		}
	}
	wantNoStep(t, code, impl.Machine{At: -1, Vars: vars, Steps: 1})
	wantNoStep(t, code, impl.Machine{At: -1, Stack: stackOf(scalar(4)), Vars: vars, Steps: 1})
	wantNoStep(t, code, impl.Machine{At: 5, Vars: vars, Steps: 1})
}

// A stack of every other length than the instructions ahead leave.
func TestMachineStepHowManyOnTheStack(t *testing.T) {
	for _, code := range append(codesToStep(), deepCode(30), grownCodes(40)[39]) {
		for _, m := range machinesAlong(code, someVars(), 5) {
			right := len(m.Stack)
			wantStepAsModel(t, code, m)
			other := m
			for long := range right {
				other.Stack = m.Stack[:long]
				wantNoStep(t, code, other)
				other.Stack = m.Stack[right-long:]
				wantNoStep(t, code, other)
			}
			for _, more := range []int{1, 2, 3, 60, 256} {
				other.Stack = append(slices.Clone(m.Stack), slices.Repeat(stackOf(scalar(1)), more)...)
				wantNoStep(t, code, other)
			}
		}
	}
	wantNoStep(t, codeOf(numInstr(1)), impl.Machine{Stack: slices.Repeat(stackOf(scalar(1)), 100000), Vars: impl.VarsNew(), Steps: 1})
}

// Each array of the stack may be the wrong one, those too that the instruction
// does not take.
func TestMachineStepWrongArrays(t *testing.T) {
	wrong := append(everyWrongArray(), impl.Array{}, impl.Array{Shape: []int{}, Data: []int{}}, impl.Array{Shape: []int{1}}, impl.Array{Data: []int{1, 2}})
	for turn, code := range codesToStep() {
		for _, m := range machinesAlong(code, someVars(), 5) {
			for i := range m.Stack {
				for j, a := range wrong {
					// Most of the wrong ones are tried at some of the places alone.
					if (i+j)%29 != turn && j < len(wrong)-4 {
						continue
					}
					spoiled := copiedMachine(m)
					spoiled.Stack[i] = a
					wantNoStep(t, code, spoiled)
				}
			}
		}
	}
}

func wrongVarsToTry() [][]impl.Var {
	return [][]impl.Var{nil, {}, make([]impl.Var, 25), make([]impl.Var, 27), someVars()[1:], someVars()[:25], append(someVars(), impl.Var{}), setIn(someVars(), "Y", impl.Array{}), setIn(someVars(), "A", scalar(top+1)),
		setIn(someVars(), "B", inShape([]int{2}, 1)), append([]impl.Var{{Value: scalar(1)}}, make([]impl.Var, 25)...), append(make([]impl.Var, 25), impl.Var{Value: impl.Array{Shape: []int{0}}}),
		append(make([]impl.Var, 25), impl.Var{Set: true})}
}

func wrongCodesToTry() [][]impl.Instr {
	num, minus := numInstr(1), plainFun('-')
	return [][]impl.Instr{nil, {}, codeOf(impl.Instr{}), codeOf(numInstr()), codeOf(numInstr(top + 1)), codeOf(num, num), codeOf(setInstr('A')), codeOf(oneInstr(minus)), codeOf(num, twoInstr(minus)),
		codeOf(num, oneInstr(plainFun('%'))), codeOf(num, num, twoInstr(plainFun('i'))), codeOf(loadInstr('A' - 1)), codeOf(loadInstr('Z' + 1)), codeOf(num, setInstr('Z'+1)), codeOf(num, impl.Instr{Op: 6}),
		codeOf(num, num, oneInstr(minus)), codeOf(impl.Instr{Op: impl.OpNum, A: 1, Nums: []int{1}}), append(codeOf(num), slices.Repeat(codeOf(oneInstr(minus)), 60)...), slices.Repeat(codeOf(num), 61),
		codeOf(num, twoInstr(minus), num, num), codeOf(num, oneInstr(minus), impl.Instr{Op: -1}), codeOf(numInstr(numbered(301)...))}
}

func TestMachineStepWrongVarsAndSteps(t *testing.T) {
	for _, code := range codesToStep() {
		for _, m := range machinesAlong(code, someVars(), 5) {
			for _, vars := range wrongVarsToTry() {
				spoiled := m
				spoiled.Vars = vars
				wantNoStep(t, code, spoiled)
			}
			for _, steps := range []int{-1, -2, -60, -1 << 31, -1 << 32, -top, math.MinInt} {
				spoiled := m
				spoiled.Steps = steps
				wantNoStep(t, code, spoiled)
			}
			for _, steps := range []int{0, 1, 2, 1 << 31, 1 << 32, top, math.MaxInt} {
				other := m
				other.Steps = steps
				if got := wantStepAsModel(t, code, other); got.Code == impl.ErBad || m.At < len(code) && (got.Code == impl.ErSteps) != (steps == 0) {
					t.Error("the test itself has another machine:", other, got)
				}
			}
		}
	}
}

// Code that is not right has no step at any At, where what is ahead of At may
// be right, too.
func TestMachineStepWrongCode(t *testing.T) {
	for _, code := range wrongCodesToTry() {
		for at := -1; at <= len(code)+1; at++ {
			for deep := range 4 {
				wantNoStep(t, code, impl.Machine{At: at, Stack: slices.Repeat(stackOf(scalar(1)), deep), Vars: impl.VarsNew(), Steps: 5})
			}
		}
	}
	wrong := 0
	for _, code := range codesToStep() {
		for i, x := range code {
			for _, y := range spoiledInstrs(x) {
				other := slices.Clone(code)
				other[i] = y
				for _, m := range machinesAlong(code, someVars(), 5) {
					if got := wantStepAsModel(t, other, m); got.Code == impl.ErBad {
						wrong++
					}
				}
			}
		}
	}
	if wrong < 1000 {
		t.Error("the test itself hardly has wrong code:", wrong)
	}
}

func codesOfAnyKind() []int {
	list := []int{-1, 11, 12, 77, 256, 1 << 32, -1 << 32, top, math.MinInt, math.MaxInt}
	for code := impl.ErBad; code <= impl.ErSteps; code++ {
		list = append(list, code)
	}
	return list
}

// A machine that has a code, or has come to its end, stays as it is; but it
// must be right.
func TestMachineStepStaysAsItIs(t *testing.T) {
	for _, code := range codesToStep() {
		for _, steps := range []int{0, 1, 5, math.MaxInt} {
			machines := machinesAlong(code, someVars(), steps)
			end := machines[len(code)]
			wantStep(t, code, end, end)
			for _, m := range machines {
				for _, how := range codesOfAnyKind() {
					m.Code = how
					wantStep(t, code, m, m)
				}
			}
		}
	}
}

// What is not right counts ahead of a code that is there already, of the end,
// of no steps and of every code that would come.
func TestMachineStepBadComesFirst(t *testing.T) {
	load := codeOf(loadInstr('Q'), oneInstr(plainFun('~')), numInstr(0), twoInstr(plainFun('%')))
	machines := machinesAlong(load, someVars(), 0)
	for _, m := range append(machines, machinesAlong(load, someVars(), 3)...) {
		for _, how := range append(codesOfAnyKind(), impl.ErNone) {
			m.Code = how
			spoil := func(change func(m *impl.Machine)) {
				spoiled := copiedMachine(m)
				change(&spoiled)
				wantNoStep(t, load, spoiled)
			}
			spoil(func(m *impl.Machine) { m.At = -1 })
			spoil(func(m *impl.Machine) { m.At = len(load) + 1 })
			spoil(func(m *impl.Machine) { m.Vars = m.Vars[1:] })
			spoil(func(m *impl.Machine) { m.Vars[3].Value = scalar(top + 1) })
			spoil(func(m *impl.Machine) { m.Steps = -1 })
			spoil(func(m *impl.Machine) { m.Stack = append(m.Stack, scalar(1)) })
			spoil(func(m *impl.Machine) { m.Steps, m.Stack, m.Vars = -1, append(m.Stack, impl.Array{}), nil })
			if len(m.Stack) > 0 {
				spoil(func(m *impl.Machine) { m.Stack = m.Stack[1:] })
				spoil(func(m *impl.Machine) { m.Stack[0] = impl.Array{} })
				spoil(func(m *impl.Machine) { m.Stack[len(m.Stack)-1] = scalar(-top - 1) })
			}
			wantNoStep(t, load[:3], m)
			wantNoStep(t, nil, m)
		}
	}
	wantNoStep(t, nil, impl.Machine{})
	wantNoStep(t, load, impl.Machine{})
	wantNoStep(t, load, impl.Machine{Code: impl.ErBad})
	wantNoStep(t, load, impl.Machine{Code: impl.ErSteps})
}

// No step left counts ahead of the code that the instruction would have, and
// behind the code or the end that is there already.
func TestMachineStepWhichCodeIsFirst(t *testing.T) {
	num, none := numInstr(1), impl.VarsNew()
	load, wave, half := codeOf(loadInstr('Q')), codeOf(num, oneInstr(plainFun('~'))), codeOf(num, num, twoInstr(plainFun('%')))
	for _, c := range []struct {
		code []impl.Instr
		m    impl.Machine
		how  int
	}{
		{load, impl.Machine{}, impl.ErValue}, {wave, impl.Machine{At: 1, Stack: stackOf(scalar(2))}, impl.ErDomain}, {half, impl.Machine{At: 2, Stack: stackOf(scalar(0), scalar(2))}, impl.ErDomain},
	} {
		c.m.Vars = none
		wantStep(t, c.code, c.m, withCode(c.m, impl.ErSteps, 0))
		c.m.Steps = 1
		wantStep(t, c.code, c.m, withCode(c.m, c.how, 1))
		for _, how := range codesOfAnyKind() {
			c.m.Code = how
			wantStep(t, c.code, c.m, c.m)
			wantStep(t, c.code, withCode(c.m, how, 1), withCode(c.m, how, 1))
		}
	}
	end := impl.Machine{At: 1, Stack: stackOf(scalar(2)), Vars: none}
	wantStep(t, load, end, end)
}

// Nothing is the same whether it is nil or an empty list.
func TestMachineStepEmptyLists(t *testing.T) {
	num, minus := numInstr(1), plainFun('-')
	empty := impl.Array{Shape: []int{}, Data: []int{}}
	unset := slices.Repeat([]impl.Var{{Value: empty}}, 26)
	want := impl.Machine{At: 1, Stack: stackOf(scalar(1)), Vars: impl.VarsNew(), Steps: 4}
	for _, vars := range [][]impl.Var{impl.VarsNew(), unset, make([]impl.Var, 26, 30)} {
		for _, stack := range [][]impl.Array{nil, {}, make([]impl.Array, 0, 4)} {
			wantStep(t, codeOf(num), impl.Machine{Stack: stack, Vars: vars, Steps: 5}, want)
			wantStep(t, codeOf(loadInstr('C')), impl.Machine{Stack: stack, Vars: vars, Steps: 5}, impl.Machine{Vars: impl.VarsNew(), Steps: 4, Code: impl.ErValue})
			wantNoStep(t, codeOf(num, oneInstr(minus)), impl.Machine{At: 1, Stack: stack, Vars: vars, Steps: 5})
		}
		for _, none := range [][]int{nil, {}, make([]int, 0, 3)} {
			m := impl.Machine{At: 1, Stack: stackOf(impl.Array{Shape: none, Data: []int{6}}), Vars: vars, Steps: 5}
			wantStep(t, codeOf(num, oneInstr(minus)), m, impl.Machine{At: 2, Stack: stackOf(scalar(-6)), Vars: impl.VarsNew(), Steps: 4})
			m.Stack = stackOf(impl.Array{Shape: []int{0}, Data: none})
			wantStep(t, codeOf(num, setInstr('A')), m, impl.Machine{At: 2, Stack: stackOf(vector()), Vars: varsWith("A", vector()), Steps: 4})
		}
	}
	for _, vars := range [][]impl.Var{nil, {}, make([]impl.Var, 0, 26)} {
		wantNoStep(t, codeOf(num), impl.Machine{Vars: vars, Steps: 5})
		wantNoStep(t, codeOf(num), impl.MachineNew(vars, 5))
	}
	// An instruction may have an empty list where it names none.
	wantStep(t, codeOf(num, impl.Instr{Op: impl.OpSet, A: 2, Nums: []int{}}), impl.Machine{At: 1, Stack: stackOf(scalar(6)), Vars: unset, Steps: 1}, impl.Machine{At: 2, Stack: stackOf(scalar(6)), Vars: varsWith("C", scalar(6))})
}

// Each step of codes that are drawn by a fixed rule, with the arrays that they
// leave themselves, and with others.
func TestMachineStepAsModel(t *testing.T) {
	codes := map[int]int{}
	var list [][]impl.Instr
	for _, x := range tamedTrees(240) {
		list = append(list, wantedCode(x.Nodes))
	}
	for turn, code := range append(list, grownCodes(120)...) {
		vars := varsToTry()[turn%5]
		m := impl.MachineNew(vars, turn%70)
		for range len(code) + 2 {
			m = wantStepAsModel(t, code, m)
		}
		codes[m.Code]++
		for _, m := range machinesAlong(code, vars, turn%4) {
			codes[wantStepAsModel(t, code, m).Code]++
		}
	}
	if codes[impl.ErNone] < 1000 || codes[impl.ErSteps] < 500 || len(codes) < 6 || codes[impl.ErBad] > 0 {
		t.Error("the test itself hardly has steps of each kind:", codes)
	}
}
