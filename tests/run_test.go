package tests

import (
	"math"
	"slices"
	"testing"

	"loop.example/g00182/impl"
)

func runOf(code []impl.Instr, vars []impl.Var, steps int) outcome {
	array, then, how, left := impl.Run(code, vars, steps)
	return outcome{array, then, how, left}
}

// wantedRun goes by the tree of which code is the code, and has no stack.
func wantedRun(code []impl.Instr, vars []impl.Var, steps int) outcome {
	if !wantedCodeOk(code) {
		return outcome{code: impl.ErBad}
	}
	return wantedEval(treeAgain(code), vars, steps)
}

func wantRun(t *testing.T, code []impl.Instr, vars []impl.Var, steps int, want outcome) {
	t.Helper()
	if got := runOf(code, vars, steps); !sameOutcome(got, want) {
		t.Errorf("Run(%v, %v, %d) = %v; want %v", code, vars, steps, got, want)
	}
}

func wantRunAsModel(t *testing.T, code []impl.Instr, vars []impl.Var, steps int) int {
	t.Helper()
	want := wantedRun(code, vars, steps)
	wantRun(t, code, vars, steps, want)
	return want.code
}

// wantLineRun asks what the code of a line comes to, with just the steps that
// it needs, with more, and with fewer.
func wantLineRun(t *testing.T, text string, vars []impl.Var, array impl.Array, then []impl.Var) {
	t.Helper()
	code := wantedCode(lineTree(t, text).Nodes)
	for _, more := range []int{0, 1, 2, 100, math.MaxInt - len(code)} {
		wantRun(t, code, vars, len(code)+more, outcome{array, then, impl.ErNone, more})
	}
	for steps := range code {
		wantRun(t, code, vars, steps, outcome{impl.Array{}, vars, impl.ErSteps, 0})
	}
}

// wantRunEnd asks for a code at the instruction of that number, counted from 1
// on.
func wantRunEnd(t *testing.T, text string, vars []impl.Var, how int, at int) {
	t.Helper()
	code := wantedCode(lineTree(t, text).Nodes)
	for _, more := range []int{0, 1, 2, 100, math.MaxInt - at} {
		wantRun(t, code, vars, at+more, outcome{impl.Array{}, vars, how, more})
	}
	for steps := range at {
		wantRun(t, code, vars, steps, outcome{impl.Array{}, vars, impl.ErSteps, 0})
	}
}

func TestRunEachKind(t *testing.T) {
	none, some := impl.VarsNew(), someVars()
	wantLineRun(t, "7", none, scalar(7), none)
	wantLineRun(t, "7 8 _9", none, vector(7, 8, -9), none)
	wantLineRun(t, "A", some, scalar(5), some)
	wantLineRun(t, "C", some, inShape([]int{2, 2}, 1, 2, 3, 4), some)
	wantLineRun(t, "D", some, vector(), some)
	wantLineRun(t, "E : 7", none, scalar(7), varsWith("E", scalar(7)))
	wantLineRun(t, "A : 7 8", some, vector(7, 8), setIn(some, "A", vector(7, 8)))
	wantLineRun(t, "- 7", none, scalar(-7), none)
	wantLineRun(t, "9 - 7", none, scalar(2), none)
	wantLineRun(t, "- E : 9 - B", some, vector(-8, -7, -6), setIn(some, "E", vector(8, 7, 6)))
	wantLineRun(t, "( 9 - 4 ) - 1", some, scalar(4), some)
	wantLineRun(t, "9 - 4 - 1", some, scalar(6), some)
	wantLineRun(t, "( A - 4 ) - B - 1", some, vector(1, 0, -1), some)
	wantLineRun(t, "( ( 1 , 2 ) , 3 , 4 ) , ( 5 , 6 ) , 7", none, vector(1, 2, 3, 4, 5, 6, 7), none)
	wantLineRun(t, "( i 3 ) o * 1 2", none, inShape([]int{3, 2}, 0, 0, 1, 2, 2, 4), none)
	wantLineRun(t, "+ / ( 1 0 1 $ 7 8 9 ) + . * 2 3", none, scalar(41), none)
}

// Letters that are set, asked for again, and set twice.
func TestRunLetters(t *testing.T) {
	none, one := impl.VarsNew(), varsWith("A", scalar(1))
	only := func(x int) []impl.Var { return varsWith("A", scalar(x)) }
	wantLineRun(t, "A + A : 4", none, scalar(8), only(4))
	wantLineRun(t, "A + A : 4", one, scalar(8), only(4))
	wantLineRun(t, "( A : 4 ) + A", one, scalar(5), only(4))
	wantLineRun(t, "( A : 7 ) , A : 2", none, vector(7, 2), only(7))
	wantLineRun(t, "A , ( A : 7 ) , A", one, vector(7, 7, 1), only(7))
	wantLineRun(t, "( A : A + 1 ) , A : A + 1", one, vector(3, 2), only(3))
	wantLineRun(t, "A : A + A : 3", none, scalar(6), only(6))
	wantLineRun(t, "A : A", one, scalar(1), only(1))
	wantLineRun(t, "A : B : C : 5 6", none, vector(5, 6), varsWith("ABC", vector(5, 6), vector(5, 6), vector(5, 6)))
	wantLineRun(t, "( B , C ) , ( C : 2 ) , B : 3", none, vector(3, 2, 2, 3), varsWith("BC", scalar(3), scalar(2)))
	wantLineRun(t, "A : A , A : A , A", one, vector(1, 1, 1, 1), varsWith("A", vector(1, 1, 1, 1)))
	wantRunEnd(t, "( A : 4 ) + A", none, impl.ErValue, 1)
	wantRunEnd(t, "( B : 1 ) , ( C , B ) , C : 3", none, impl.ErValue, 3)
	all := slices.Repeat([]impl.Var{{Set: true, Value: vector(6, 7)}}, 26)
	code := codeOf(numInstr(6, 7))
	for letter := byte('A'); letter <= 'Z'; letter++ {
		code = append(code, setInstr(letter))
	}
	wantRun(t, code, someVars(), 30, outcome{vector(6, 7), all, impl.ErNone, 3})
}

// A told is a line, and what it comes to behind those ahead of it.
type told struct {
	text string
	want impl.Array
	code int
}

// wantTold runs lines one behind the other: what one of them sets the next one
// has.
func wantTold(t *testing.T, lines []told, then []impl.Var, run func(code []impl.Instr, vars []impl.Var) outcome) {
	t.Helper()
	vars := impl.VarsNew()
	for _, c := range lines {
		got := run(wantedCode(lineTree(t, c.text).Nodes), vars)
		if !alike(got.array, c.want) || got.code != c.code {
			t.Errorf("%q comes to %v, %d; want %v, %d", c.text, got.array, got.code, c.want, c.code)
		}
		vars = got.vars
	}
	if !sameVars(vars, then) {
		t.Error("behind all runs the letters are", vars)
	}
}

func TestRunLineByLine(t *testing.T) {
	wantTold(t, []told{
		{"A", impl.Array{}, impl.ErValue}, {"A : i 4", vector(0, 1, 2, 3), 0}, {"+ / A", scalar(6), 0}, {"B : 2 2 # A", inShape([]int{2, 2}, 0, 1, 2, 3), 0}, {"A : B + . * B", inShape([]int{2, 2}, 2, 3, 6, 11), 0},
		{"A : 1 , A : 9 % 0", impl.Array{}, impl.ErDomain}, {"A", inShape([]int{2, 2}, 2, 3, 6, 11), 0}, {"( 1 2 + 1 2 3 ) , C : 7", impl.Array{}, impl.ErLength}, {"C", impl.Array{}, impl.ErValue},
		{"B : A : 0 # 0", vector(), 0}, {"A , 3", vector(3), 0},
	}, varsWith("AB", vector(), vector()), func(code []impl.Instr, vars []impl.Var) outcome { return runOf(code, vars, 100) })
}

// With a code the letters are as they were, whatever was set ahead of it.
func TestRunEachCode(t *testing.T) {
	for _, vars := range [][]impl.Var{impl.VarsNew(), someVars(), slices.Repeat([]impl.Var{{Set: true, Value: vector(4, 4)}}, 26)} {
		wantRunEnd(t, "1 % 0", vars, impl.ErDomain, 3)
		wantRunEnd(t, "~ 2", vars, impl.ErDomain, 2)
		wantRunEnd(t, "1 2 + 1 2 3", vars, impl.ErLength, 3)
		wantRunEnd(t, "g 3", vars, impl.ErRank, 2)
		wantRunEnd(t, "2 @ 5 6", vars, impl.ErIndex, 3)
		wantRunEnd(t, "1000000000000 + 1", vars, impl.ErLimit, 3)
		wantRunEnd(t, "( i 200 ) , i 101", vars, impl.ErLimit, 5)
		wantRunEnd(t, "( 1 % 0 ) + 1 2 + 1 2 3", vars, impl.ErLength, 3)
		wantRunEnd(t, "( 1 2 + 1 2 3 ) + 1 % 0", vars, impl.ErDomain, 3)
		wantRunEnd(t, "( 1 % 0 ) , A : B : 4", vars, impl.ErDomain, 6)
		wantRunEnd(t, "( 5 @ D : 1 2 ) , Z : ( E : 3 ) + A : 2", vars, impl.ErIndex, 10)
		wantRunEnd(t, "F : _1 # G : A : 4", vars, impl.ErDomain, 5)
	}
	wantRunEnd(t, "Q", someVars(), impl.ErValue, 1)
	wantRunEnd(t, "Q , A : B : 4", someVars(), impl.ErValue, 4)
	wantRunEnd(t, "( C : Q ) , A : B : 4", someVars(), impl.ErValue, 4)
	wantRunEnd(t, "( 1 % 0 ) + Q", someVars(), impl.ErValue, 1)
	wantRunEnd(t, "Q + 1 % 0", someVars(), impl.ErDomain, 3)
}

func TestRunUpToTheMost(t *testing.T) {
	vars := slices.Repeat([]impl.Var{{Set: true, Value: scalar(3)}}, 26)
	codes := map[int]int{}
	for _, count := range []int{58, 59, 60} {
		for _, line := range linesOfNodes(count) {
			code := wantedCode(lineTree(t, line).Nodes)
			for _, steps := range []int{0, 1, 30, count - 2, count - 1, count, count + 1, 1000, math.MaxInt} {
				codes[wantRunAsModel(t, code, vars, steps)]++
			}
		}
	}
	if codes[impl.ErNone] < 40 || codes[impl.ErSteps] < 40 {
		t.Error("the test itself has", codes)
	}
	code := append(codeOf(numInstr(1)), slices.Repeat(codeOf(oneInstr(plainFun('-'))), 59)...)
	wantRun(t, code, vars, 61, outcome{scalar(-1), vars, impl.ErNone, 1})
	wantRun(t, append(code, oneInstr(plainFun('-'))), vars, 61, outcome{code: impl.ErBad})
	// The deepest stack that code may have: what is on top is on the left.
	wantRun(t, deepCode(30), vars, 60, outcome{scalar(3 - 29*3), vars, impl.ErNone, 1})
	wantRun(t, deepCode(29), vars, 60, outcome{scalar(3 - 28*3), vars, impl.ErNone, 3})
	wantRun(t, deepCode(31), vars, 60, outcome{code: impl.ErBad})
	wantRun(t, codeOf(numInstr(numbered(300)...)), vars, 1, outcome{vector(numbered(300)...), vars, impl.ErNone, 0})
	wantRun(t, codeOf(numInstr(numbered(301)...)), vars, 1, outcome{code: impl.ErBad})
}

// What is not right counts ahead of every code and of no steps, and nothing is
// answered beside it.
func TestRunBad(t *testing.T) {
	bad := outcome{code: impl.ErBad}
	right := [][]impl.Instr{codeOf(numInstr(1)), codeOf(numInstr(2), setInstr('A')), codeOf(loadInstr('Q')), codeOf(numInstr(0), numInstr(1), twoInstr(plainFun('%')))}
	for _, steps := range []int{-1, -2, -1 << 32, math.MinInt, 0, 1, 2, 100, math.MaxInt} {
		for _, code := range append(wrongCodesToTry(), right...) {
			for _, vars := range wrongVarsToTry() {
				wantRun(t, code, vars, steps, bad)
			}
		}
		for _, vars := range varsToTry() {
			for _, code := range wrongCodesToTry() {
				wantRun(t, code, vars, steps, bad)
			}
			for _, code := range right {
				if steps < 0 {
					wantRun(t, code, vars, steps, bad)
				} else if got := runOf(code, vars, steps); got.code == impl.ErBad || len(got.vars) != 26 {
					t.Error("right, but refused:", code, vars, steps, got)
				}
			}
		}
	}
	empty := slices.Repeat([]impl.Var{{Value: impl.Array{Shape: []int{}, Data: []int{}}}}, 26)
	wantRun(t, codeOf(numInstr(1)), empty, 1, outcome{scalar(1), impl.VarsNew(), impl.ErNone, 0})
	wantRun(t, codeOf(loadInstr('A')), empty, 1, outcome{impl.Array{}, impl.VarsNew(), impl.ErValue, 0})
}

// All short lists of instructions, right or not.
func TestRunEveryShortList(t *testing.T) {
	choice := codeOf(numInstr(4), numInstr(1, 0), loadInstr('A'), setInstr('A'), setInstr('B'), oneInstr(plainFun('i')), twoInstr(plainFun('%')), twoInstr(plainFun(',')))
	vars, codes := varsWith("B", scalar(2)), map[int]int{}
	for long := range 6 {
		everyCode(choice, long, func(code []impl.Instr) {
			codes[wantRunAsModel(t, code, vars, long)]++
		})
	}
	if codes[impl.ErNone] < 400 || codes[impl.ErBad] < 10000 || codes[impl.ErValue] < 100 || len(codes) < 5 {
		t.Error("the test itself hardly has runs of each kind:", codes)
	}
}

// Each instruction of some codes is spoiled in every way: what is still code
// comes to what it says, all else to ErBad.
func TestRunOfSpoiledCode(t *testing.T) {
	vars := slices.Repeat([]impl.Var{{Set: true, Value: scalar(2)}}, 26)
	codes := map[int]int{}
	for _, code := range append(codesToStep(), grownCodes(12)...) {
		for i, x := range code {
			for _, y := range spoiledInstrs(x) {
				other := slices.Clone(code)
				other[i] = y
				codes[wantRunAsModel(t, other, vars, 20)]++
				wantRunAsModel(t, other, vars, 1)
			}
		}
	}
	if codes[impl.ErNone] < 100 || codes[impl.ErBad] < 1000 {
		t.Error("the test itself hardly has both:", codes)
	}
}

// wantRunIsItsSteps does the steps one by one, with nothing but what was
// answered by the last one.
func wantRunIsItsSteps(t *testing.T, code []impl.Instr, vars []impl.Var, steps int) {
	t.Helper()
	m, count := impl.MachineNew(vars, steps), 0
	for m.Code == impl.ErNone && m.At < len(code) && count < 100 {
		m = impl.MachineStep(code, m)
		count++
	}
	want := outcome{impl.Array{}, vars, m.Code, m.Steps}
	switch m.Code {
	case impl.ErNone:
		want.array, want.vars = m.Stack[0], m.Vars
		if len(m.Stack) != 1 || count != len(code) {
			t.Errorf("%v ends with %d steps and %v", code, count, m)
		}
	case impl.ErBad:
		want.vars = nil
	}
	wantRun(t, code, vars, steps, want)
}

func TestRunIsItsSteps(t *testing.T) {
	for turn, x := range append(tamedTrees(300), treesOf(grownTrees(150))...) {
		code := wantedCode(x.Nodes)
		for i, vars := range varsToTry() {
			for _, steps := range []int{len(code), len(code) - 1, 60 + i, turn % 9, 0, -1} {
				wantRunIsItsSteps(t, code, vars, steps)
			}
		}
	}
	for _, code := range wrongCodesToTry() {
		if len(code) > 0 {
			wantRunIsItsSteps(t, code, someVars(), 9)
		}
	}
	for _, vars := range wrongVarsToTry() {
		wantRunIsItsSteps(t, codeOf(numInstr(1)), vars, 9)
	}
}

// Promise 12: compiled code runs to what its tree comes to, in as many steps.
func TestCompiledCodeRunsToWhatItsTreeComesTo(t *testing.T) {
	codes, kinds := map[int]int{}, map[int]int{}
	for _, x := range append(tamedTrees(1500), treesOf(grownTrees(600))...) {
		code, ok := impl.Compile(x)
		if !ok {
			t.Fatal("not compiled:", x)
		}
		for _, node := range x.Nodes {
			kinds[node.Kind]++
		}
		for _, vars := range varsToTry() {
			full := evalOf(x, vars, math.MaxInt)
			need := math.MaxInt - full.left
			for _, steps := range []int{math.MaxInt, need + 1, need, need - 1, need / 2, 1, 0, -1} {
				want := evalOf(x, vars, steps)
				wantRun(t, code, vars, steps, want)
				codes[want.code]++
			}
			if got := runOf(code, vars, need); got.code == impl.ErNone && (!impl.ArrayOk(got.array) || !impl.VarsOk(got.vars)) {
				t.Errorf("%v runs to what is not right: %v", code, got)
			}
			wantRun(t, code, vars, need, wantedEval(x, vars, need))
		}
	}
	if codes[impl.ErNone] < 1000 || codes[impl.ErSteps] < 1000 || len(codes) < 8 || len(kinds) != 5 {
		t.Error("the test itself hardly has lines of each kind:", codes, kinds)
	}
}
