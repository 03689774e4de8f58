package tests

import (
	"math"
	"slices"
	"testing"

	"loop.example/g00182/impl"
)

const allForce = 2147483647

// A fastOutcome is all that FastRun answers.
type fastOutcome struct {
	outcome
	many int
}

func fastOf(code []impl.Instr, vars []impl.Var, steps int, force int) fastOutcome {
	array, then, how, left, many := impl.FastRun(code, vars, steps, force)
	return fastOutcome{outcome{array, then, how, left}, many}
}

// wantedMany goes step by step, and counts the spans at whose beginning all
// holds that lets them be done at once.
func wantedMany(code []impl.Instr, vars []impl.Var, steps int, force int) int {
	m, many := impl.Machine{Vars: vars, Steps: steps}, 0
	for k, s := range wantedSpans(code) {
		for m.Code == impl.ErNone && m.At < s.From {
			m = wantedStep(code, m)
		}
		if m.Code != impl.ErNone {
			break
		}
		_, fused := wantedFused(code, s, m.Vars)
		if fused && m.Steps >= s.To-s.From && force/(1<<(k%31))%2 == 0 {
			many++
		}
	}
	return many
}

func wantedFast(code []impl.Instr, vars []impl.Var, steps int, force int) fastOutcome {
	if force < 0 || force > allForce {
		return fastOutcome{outcome{code: impl.ErBad}, 0}
	}
	want := fastOutcome{wantedRun(code, vars, steps), 0}
	if want.code != impl.ErBad {
		want.many = wantedMany(code, vars, steps, force)
	}
	return want
}

func wantFast(t *testing.T, code []impl.Instr, vars []impl.Var, steps int, force int, want outcome, many int) {
	t.Helper()
	if got := fastOf(code, vars, steps, force); !sameOutcome(got.outcome, want) || got.many != many {
		t.Errorf("FastRun(%v, %v, %d, %d) = %v; want %v, %d", code, vars, steps, force, got, want, many)
	}
}

func wantFastAsModel(t *testing.T, code []impl.Instr, vars []impl.Var, steps int, force int) fastOutcome {
	t.Helper()
	want := wantedFast(code, vars, steps, force)
	wantFast(t, code, vars, steps, force, want.outcome, want.many)
	return want
}

func eachForce() []int {
	list := []int{0, allForce}
	for bit := range 31 {
		list = append(list, 1<<bit, allForce-1<<bit)
	}
	return list
}

// bitsOff counts the bits of force that are 0, of the first so many ones.
func bitsOff(force int, count int) int {
	off := 0
	for bit := range count {
		off += 1 - force/(1<<bit)%2
	}
	return off
}

// wantLineFast asks what a line comes to of which all spans, so many, may be
// done at once: by any force, and with more steps than it needs.
func wantLineFast(t *testing.T, text string, vars []impl.Var, array impl.Array, then []impl.Var, spans int) {
	t.Helper()
	code := wantedCode(lineTree(t, text).Nodes)
	for _, force := range eachForce() {
		for _, more := range []int{0, 1, 100, math.MaxInt - len(code)} {
			wantFast(t, code, vars, len(code)+more, force, outcome{array, then, impl.ErNone, more}, bitsOff(force, spans))
		}
	}
	for steps := range code {
		got := wantFastAsModel(t, code, vars, steps, 0)
		if got.code != impl.ErSteps || got.left != 0 || !sameVars(got.vars, vars) {
			t.Errorf("%q with %d steps comes to %v", text, steps, got)
		}
		wantFast(t, code, vars, steps, allForce, got.outcome, 0)
	}
}

func TestFastRunOrdinary(t *testing.T) {
	none, some := impl.VarsNew(), someVars()
	wantLineFast(t, "7", none, scalar(7), none, 0)
	wantLineFast(t, "A", some, scalar(5), some, 0)
	wantLineFast(t, "E : 7 8", none, vector(7, 8), varsWith("E", vector(7, 8)), 0)
	wantLineFast(t, "1 , 2", none, vector(1, 2), none, 0)
	wantLineFast(t, "+ / i 4", none, scalar(6), none, 0)
	wantLineFast(t, "- 7", none, scalar(-7), none, 1)
	wantLineFast(t, "9 - 7", none, scalar(2), none, 1)
	wantLineFast(t, "B - A", some, vector(-4, -3, -2), some, 1)
	wantLineFast(t, "A - | - C", some, inShape([]int{2, 2}, 4, 3, 2, 1), some, 1)
	wantLineFast(t, "( 9 - 4 ) - 1", none, scalar(4), none, 1)
	wantLineFast(t, "E : - B", some, vector(-1, -2, -3), setIn(some, "E", vector(-1, -2, -3)), 1)
	wantLineFast(t, "E : + / B * 2 + B", some, scalar(26), setIn(some, "E", scalar(26)), 1)
	wantLineFast(t, "( - 1 ) + i 3", none, vector(-1, 0, 1), none, 1)
	wantLineFast(t, "( - 1 ) , - 2", none, vector(-1, -2), none, 2)
	wantLineFast(t, "( 1 + B ) , ( 3 + A ) , 5 + 6", some, vector(2, 3, 4, 8, 11), some, 3)
	wantLineFast(t, "( - 1 ) , ( - 2 ) , ( - 3 ) , ( - 4 ) , - 5", none, vector(-1, -2, -3, -4, -5), none, 5)
	wantLineFast(t, "( B + B ) + . * B - 1", some, scalar(16), some, 2)
}

// What is set ahead of a span is what its letters are then.
func TestFastRunLetters(t *testing.T) {
	none, one := impl.VarsNew(), varsWith("A", scalar(1))
	wantLineFast(t, "( - A ) , A : - 4", none, vector(4, -4), varsWith("A", scalar(-4)), 2)
	wantLineFast(t, "( - A ) , A : - 4", one, vector(4, -4), varsWith("A", scalar(-4)), 2)
	wantLineFast(t, "( A : 4 ) + - A", one, scalar(3), varsWith("A", scalar(4)), 1)
	wantLineFast(t, "( A : - A ) , ( A : - A ) , A : A + 1", one, vector(2, -2, 2), varsWith("A", scalar(2)), 3)
	wantLineFast(t, "( A + B ) , A : B + B : 4 5", none, vector(12, 15, 8, 10), varsWith("AB", vector(8, 10), vector(4, 5)), 1)
	// The shape that a letter gets makes the guard hold, or not.
	code := wantedCode(lineTree(t, "( A + B ) , A : 1 + 2 3").Nodes)
	for _, c := range []struct {
		a, b impl.Array
		how  int
		want impl.Array
		many int
	}{
		{vector(), vector(1, 1), impl.ErNone, vector(4, 5, 3, 4), 2},
		{vector(1, 2, 3), vector(1, 1), impl.ErNone, vector(4, 5, 3, 4), 2},
		{vector(7, 7), scalar(1), impl.ErNone, vector(4, 5, 3, 4), 2},
		{vector(1, 2, 3), vector(1, 2, 3), impl.ErLength, impl.Array{}, 1},
		{vector(), vector(), impl.ErLength, impl.Array{}, 1},
		{scalar(1), inShape([]int{2, 1}, 1, 1), impl.ErRank, impl.Array{}, 1},
	} {
		vars := varsWith("AB", c.a, c.b)
		then, left := setIn(vars, "A", vector(3, 4)), 1
		if c.how != impl.ErNone {
			then, left = vars, 2
		}
		wantFast(t, code, vars, 9, 0, outcome{c.want, then, c.how, left}, c.many)
		wantFast(t, code, vars, 9, allForce, outcome{c.want, then, c.how, left}, 0)
		wantFast(t, code, vars, 9, 1, outcome{c.want, then, c.how, left}, c.many-1)
	}
}

// Where the guard of one span does not hold it is done step by step, and the
// others are done at once all the same.
func TestFastRunGuards(t *testing.T) {
	vars := varsWith("ABCDE", vector(1, 2), scalar(3), vector(), inShape([]int{0, 2}), vector(4))
	for _, c := range []struct {
		text string
		want impl.Array
		many int
	}{
		{"- C", vector(), 0}, {"C + C", vector(), 0}, {"1 + C", vector(), 0}, {"D * 2", inShape([]int{0, 2}), 0},
		{"( - C ) , - B", vector(-3), 1}, {"( - B ) , - C", vector(-3), 1}, {"( - C ) , - C", vector(), 0}, {"( - A ) , ( - C ) , - B", vector(-1, -2, -3), 2},
		{"( ( - A ) , 1 + C ) , ( - C ) , 2 - B", vector(-1, -2, -1), 2}, {"E + B", vector(7), 1}, {"( E + B ) , A + B", vector(7, 4, 5), 2},
	} {
		code := wantedCode(lineTree(t, c.text).Nodes)
		wantFast(t, code, vars, 30, 0, outcome{c.want, vars, impl.ErNone, 30 - len(code)}, c.many)
		wantFast(t, code, vars, 30, allForce, outcome{c.want, vars, impl.ErNone, 30 - len(code)}, 0)
		for _, force := range eachForce() {
			wantFastAsModel(t, code, vars, 30, force)
		}
	}
}

// wantFastEnd asks for a code at the instruction of that number, counted from 1
// on, behind so many spans that are done at once.
func wantFastEnd(t *testing.T, text string, vars []impl.Var, how int, at int, many int) {
	t.Helper()
	code := wantedCode(lineTree(t, text).Nodes)
	for _, more := range []int{0, 1, 2, 100, math.MaxInt - at} {
		want := outcome{impl.Array{}, vars, how, more}
		wantFast(t, code, vars, at+more, 0, want, wantedMany(code, vars, at+more, 0))
		wantFast(t, code, vars, at+more, allForce, want, 0)
	}
	wantFast(t, code, vars, 100, 0, outcome{impl.Array{}, vars, how, 100 - at}, many)
	for steps := range at {
		for _, force := range []int{0, 1, 2, allForce} {
			if got := wantFastAsModel(t, code, vars, steps, force); got.code != impl.ErSteps || got.left != 0 {
				t.Errorf("%q with %d steps comes to %v", text, steps, got)
			}
		}
	}
}

// With a code it is as Run tells: the steps of the span are done one by one.
func TestFastRunEachCode(t *testing.T) {
	vars := setIn(someVars(), "TU", scalar(top), vector(0, 2, 1))
	wantFastEnd(t, "1 % 0", vars, impl.ErDomain, 3, 0)
	wantFastEnd(t, "- 1 % 0", vars, impl.ErDomain, 3, 0)
	wantFastEnd(t, "~ 2", vars, impl.ErDomain, 2, 0)
	wantFastEnd(t, "1 + T", vars, impl.ErLimit, 3, 0)
	wantFastEnd(t, "0 * _1 + 1 + T", vars, impl.ErLimit, 3, 0)
	wantFastEnd(t, "1 2 + 1 2 3", vars, impl.ErLength, 3, 0)
	wantFastEnd(t, "B + C", vars, impl.ErRank, 3, 0)
	wantFastEnd(t, "- Q", vars, impl.ErValue, 1, 0)
	wantFastEnd(t, "Q + 1 2", vars, impl.ErValue, 2, 0)
	wantFastEnd(t, "Q + 1 % 0", vars, impl.ErDomain, 3, 0)
	wantFastEnd(t, "( 1 % 0 ) + Q", vars, impl.ErValue, 1, 0)
	wantFastEnd(t, "( 1 % 0 ) + 1 2 + 1 2 3", vars, impl.ErLength, 3, 0)
	wantFastEnd(t, "( 1 2 + 1 2 3 ) + 1 % 0", vars, impl.ErDomain, 3, 0)
	wantFastEnd(t, "~ U", vars, impl.ErDomain, 2, 0)
	wantFastEnd(t, "D + 1 % 0", vars, impl.ErDomain, 3, 0)
	wantFastEnd(t, "( 1 % 0 ) + D", vars, impl.ErDomain, 4, 0)
	// Behind spans that were done at once, within a span and outside of one.
	wantFastEnd(t, "( 1 % 0 ) , - 2", vars, impl.ErDomain, 5, 1)
	wantFastEnd(t, "i - 2", vars, impl.ErDomain, 3, 1)
	wantFastEnd(t, "Q , - 2", vars, impl.ErValue, 3, 1)
	wantFastEnd(t, "Q , ( - 3 ) , - 2", vars, impl.ErValue, 6, 2)
	wantFastEnd(t, "( 1 % 0 ) , ( A : - 3 ) , E : - 2", vars, impl.ErDomain, 10, 2)
	wantFastEnd(t, "( - B ) + . * - 1 2", vars, impl.ErLength, 5, 2)
	// Place by place another code, or another step, would come first.
	half := top/2 + 1
	pair := varsWith("AB", vector(1, 2), scalar(half))
	wantFastEnd(t, "~ A * B", pair, impl.ErLimit, 3, 0)
	wantFastEnd(t, "1 % ( A - 1 ) * B * A", pair, impl.ErLimit, 3, 0)
	wantFastEnd(t, "( ~ A + 4 ) + A * B", pair, impl.ErLimit, 3, 0)
	wantFastEnd(t, "( A * B ) + ~ A", pair, impl.ErDomain, 2, 0)
}

// With fewer steps than a span wants its steps are done one by one, up to the
// last step; with just as many it is done at once.
func TestFastRunSteps(t *testing.T) {
	code := wantedCode(lineTree(t, "B : + / A * 2 + A").Nodes)
	vars := varsWith("A", vector(1, 2, 3))
	for steps, many := range []int{0, 0, 0, 0, 0, 1, 1} {
		short := outcome{impl.Array{}, vars, impl.ErSteps, 0}
		wantFast(t, code, vars, steps, 0, short, many)
		wantFast(t, code, vars, steps, 1, short, 0)
		wantFast(t, code, vars, steps, allForce-1, short, many)
	}
	for steps := 7; steps < 20; steps++ {
		wantFast(t, code, vars, steps, 0, outcome{scalar(26), setIn(vars, "B", scalar(26)), impl.ErNone, steps - 7}, 1)
	}
	// Spans of 3, 2 and 4 steps: 0 .. 3, 3 .. 5 and 6 .. 10.
	code = wantedCode(lineTree(t, "( - 1 + 2 ) , ( - 3 ) , 5 + 6").Nodes)
	wantSpans(t, code, spansOf(0, 3, 3, 5, 6, 10))
	for steps, many := range []int{0, 0, 0, 1, 1, 2, 2, 2, 2, 2, 3} {
		wantFast(t, code, vars, steps, 0, outcome{impl.Array{}, vars, impl.ErSteps, 0}, many)
		wantFast(t, code, vars, steps, 1, outcome{impl.Array{}, vars, impl.ErSteps, 0}, max(many-1, 0))
		wantFast(t, code, vars, steps, 7, outcome{impl.Array{}, vars, impl.ErSteps, 0}, 0)
	}
	wantFast(t, code, vars, 11, 0, outcome{vector(-3, -3, 11), vars, impl.ErNone, 0}, 3)
	// Too few for a span whose steps have a code: the code comes first where it
	// comes within the steps.
	code = codeOf(numInstr(0), numInstr(1), twoInstr(plainFun('%')), oneInstr(plainFun('-')))
	for steps, how := range []int{impl.ErSteps, impl.ErSteps, impl.ErSteps, impl.ErDomain, impl.ErDomain, impl.ErDomain} {
		wantFast(t, code, vars, steps, 0, outcome{impl.Array{}, vars, how, max(steps-3, 0)}, 0)
	}
	// As long as can be.
	for _, code := range [][]impl.Instr{deepCode(30), append(codeOf(numInstr(1)), slices.Repeat(codeOf(oneInstr(plainFun('-'))), 59)...)} {
		for _, steps := range []int{0, 1, len(code) - 2, len(code) - 1} {
			wantFast(t, code, vars, steps, 0, outcome{impl.Array{}, vars, impl.ErSteps, 0}, 0)
		}
		for _, steps := range []int{len(code), len(code) + 1, 1 << 32, math.MaxInt} {
			wantFast(t, code, vars, steps, 0, runOf(code, vars, steps), 1)
		}
	}
}

// Within a span that is not done at once runs begin, too: none of them is one
// of Spans, so that none is done at once, and none takes a bit.
func TestFastRunWithinASpan(t *testing.T) {
	vars := varsWith("AB", vector(1, 2), vector(1, 2, 3))
	code := wantedCode(lineTree(t, "( - 1 ) + ( - 2 ) + - 3").Nodes)
	wantFast(t, code, vars, 8, 0, outcome{scalar(-6), vars, impl.ErNone, 0}, 1)
	for _, force := range []int{1, 3, 5, allForce} {
		wantFast(t, code, vars, 8, force, outcome{scalar(-6), vars, impl.ErNone, 0}, 0)
	}
	for steps := range 8 {
		wantFast(t, code, vars, steps, 0, outcome{impl.Array{}, vars, impl.ErSteps, 0}, 0)
	}
	code = wantedCode(lineTree(t, "( ( - 1 ) + Q + - 3 ) , - 5").Nodes)
	wantFast(t, code, vars, 20, 0, outcome{impl.Array{}, vars, impl.ErValue, 15}, 1)
	code = wantedCode(lineTree(t, "( ( - 1 ) + D + - 3 ) , - 5").Nodes)
	wantFast(t, code, setIn(vars, "D", vector()), 20, 0, outcome{vector(-5), setIn(vars, "D", vector()), impl.ErNone, 10}, 1)
	wantFast(t, code, setIn(vars, "D", vector()), 20, 2, outcome{vector(-5), setIn(vars, "D", vector()), impl.ErNone, 10}, 1)
	wantFast(t, code, setIn(vars, "D", vector()), 20, 1, outcome{vector(-5), setIn(vars, "D", vector()), impl.ErNone, 10}, 0)
}

// As many spans as code can have: each has a bit of its own, and the bits from
// there on speak for none.
func TestFastRunForce(t *testing.T) {
	draw := drawing(15)
	for _, count := range []int{1, 2, 3, 10, 19, 20} {
		code, vars := spanCode(count), impl.VarsNew()
		want := outcome{vector(slices.Repeat([]int{-3}, count)...), vars, impl.ErNone, 0}
		if count == 1 {
			want.array = scalar(-3)
		}
		forces := append(eachForce(), 1<<count-1, 1<<count, allForce-(1<<count-1))
		for range 300 {
			forces = append(forces, draw(1<<16)<<15|draw(1<<15))
		}
		for _, force := range forces {
			wantFast(t, code, vars, len(code), force, want, bitsOff(force, count))
		}
	}
}

func wrongForces() []int {
	return []int{-1, -2, -1 << 31, -1<<31 - 1, -1 << 32, math.MinInt, math.MinInt + 1, 1 << 31, 1<<31 + 1, 1 << 32, 1<<32 + 1, 1 << 62, math.MaxInt}
}

// What is not right counts ahead of every code and of no steps, and nothing is
// answered beside it.
func TestFastRunBad(t *testing.T) {
	bad := outcome{code: impl.ErBad}
	right := [][]impl.Instr{codeOf(numInstr(1)), codeOf(numInstr(2), oneInstr(plainFun('-'))), codeOf(numInstr(2), oneInstr(plainFun('-')), setInstr('A')), codeOf(loadInstr('Q'), oneInstr(plainFun('-'))),
		codeOf(numInstr(0), numInstr(1), twoInstr(plainFun('%'))), spanCode(20)}
	for _, vars := range varsToTry() {
		for _, code := range right {
			for _, force := range wrongForces() {
				for _, steps := range []int{-1, 0, 1, 100, math.MaxInt} {
					wantFast(t, code, vars, steps, force, bad, 0)
				}
			}
			for _, force := range []int{0, 1, allForce} {
				for _, steps := range []int{-1, -2, -1 << 32, math.MinInt} {
					wantFast(t, code, vars, steps, force, bad, 0)
				}
				for _, steps := range []int{0, 1, 100, math.MaxInt} {
					if got := fastOf(code, vars, steps, force); got.code == impl.ErBad || len(got.vars) != 26 {
						t.Error("right, but refused:", code, vars, steps, force, got)
					}
				}
			}
		}
	}
	for _, steps := range []int{-1, 0, 1, 100, math.MaxInt} {
		for _, force := range []int{0, allForce, -1, allForce + 1} {
			for _, code := range append(wrongCodesToTry(), right...) {
				for _, vars := range wrongVarsToTry() {
					wantFast(t, code, vars, steps, force, bad, 0)
				}
			}
			for _, code := range wrongCodesToTry() {
				for _, vars := range varsToTry() {
					wantFast(t, code, vars, steps, force, bad, 0)
				}
			}
		}
	}
	empty := slices.Repeat([]impl.Var{{Value: impl.Array{Shape: []int{}, Data: []int{}}}}, 26)
	wantFast(t, codeOf(numInstr(1), oneInstr(plainFun('-'))), empty, 2, 0, outcome{scalar(-1), impl.VarsNew(), impl.ErNone, 0}, 1)
	wantFast(t, codeOf(loadInstr('A'), oneInstr(plainFun('-'))), empty, 2, 0, outcome{impl.Array{}, impl.VarsNew(), impl.ErValue, 1}, 0)
}

func TestFastRunLineByLine(t *testing.T) {
	for _, force := range []int{0, 1, 2, allForce} {
		wantTold(t, []told{
			{"- A", impl.Array{}, impl.ErValue}, {"A : 2 * i 4", vector(0, 2, 4, 6), 0}, {"+ / A * A - 1", scalar(44), 0}, {"B : 2 2 # A + 1", inShape([]int{2, 2}, 1, 3, 5, 7), 0}, {"A : ( B - 1 ) + . * B + 1", inShape([]int{2, 2}, 12, 16, 44, 64), 0},
			{"A : 1 , A : 9 % 0", impl.Array{}, impl.ErDomain}, {"- A", inShape([]int{2, 2}, -12, -16, -44, -64), 0}, {"( 1 2 + 1 2 3 ) , C : - 7", impl.Array{}, impl.ErLength}, {"C", impl.Array{}, impl.ErValue},
			{"B : A : 0 # - 1", vector(), 0}, {"1 + A", vector(), 0}, {"( A + 1 ) , 3 - 1", vector(2), 0},
		}, varsWith("AB", vector(), vector()), func(code []impl.Instr, vars []impl.Var) outcome { return fastOf(code, vars, 100, force).outcome })
	}
}

// All short lists of instructions, right or not.
func TestFastRunEveryShortList(t *testing.T) {
	choice := codeOf(numInstr(0), numInstr(1, 0), loadInstr('A'), loadInstr('B'), setInstr('A'), oneInstr(plainFun('~')), twoInstr(plainFun('%')), twoInstr(plainFun(',')))
	vars, codes, manies := varsWith("B", vector(2, 3)), map[int]int{}, map[int]int{}
	for long := range 6 {
		everyCode(choice, long, func(code []impl.Instr) {
			if !impl.CodeOk(code) {
				wantFast(t, code, vars, long, 0, outcome{code: impl.ErBad}, 0)
				codes[impl.ErBad]++
				return
			}
			for steps := range long + 2 {
				for force := range 4 {
					got := wantFastAsModel(t, code, vars, steps, force)
					codes[got.code]++
					manies[got.many]++
				}
			}
		})
	}
	if codes[impl.ErNone] < 400 || codes[impl.ErBad] < 10000 || codes[impl.ErValue] < 100 || len(codes) < 6 || manies[1] < 1000 || manies[2] < 10 {
		t.Error("the test itself hardly has runs of each kind:", codes, manies)
	}
}

func TestFastRunOfSpoiledCode(t *testing.T) {
	vars := slices.Repeat([]impl.Var{{Set: true, Value: scalar(2)}}, 26)
	codes := map[int]int{}
	for _, code := range append(codesToStep(), plainCodes(12)...) {
		for i, x := range code {
			for _, y := range spoiledInstrs(x) {
				other := slices.Clone(code)
				other[i] = y
				codes[wantFastAsModel(t, other, vars, 20, i%4).code]++
			}
		}
	}
	if codes[impl.ErNone] < 100 || codes[impl.ErBad] < 1000 {
		t.Error("the test itself hardly has both:", codes)
	}
}

// Promise 15: whatever of its runs is done at once or forced not to be, code
// runs as on the machine.
func TestWhateverIsDoneAtOnceCodeRunsAsOnTheMachine(t *testing.T) {
	codes, manies, draw := map[int]int{}, map[int]int{}, drawing(23)
	list := slices.Concat(plainCodes(700), grownCodes(120))
	for _, x := range tamedTrees(240) {
		list = append(list, wantedCode(x.Nodes))
	}
	for _, code := range list {
		count := len(impl.Spans(code))
		for _, vars := range varsToFuse() {
			for _, steps := range []int{math.MaxInt, len(code), len(code) - 1 - draw(3), draw(61), -1} {
				want := runOf(code, vars, steps)
				most := fastOf(code, vars, steps, 0).many
				for _, force := range []int{0, allForce, 1 << draw(20), draw(1<<16)<<15 | draw(1<<15)} {
					got := fastOf(code, vars, steps, force)
					if !sameOutcome(got.outcome, want) || got.many < 0 || got.many > most || got.many > bitsOff(force, count) {
						t.Errorf("FastRun(%v, %v, %d, %d) = %v, where Run comes to %v", code, vars, steps, force, got, want)
					}
					codes[got.code]++
					manies[min(got.many, 5)]++
				}
			}
		}
	}
	if codes[impl.ErNone] < 1000 || codes[impl.ErSteps] < 1000 || len(codes) < 8 || len(manies) != 6 || manies[5] < 50 {
		t.Error("the test itself hardly has runs of each kind:", codes, manies)
	}
}

func TestFastRunAsModel(t *testing.T) {
	manies, draw := map[int]int{}, drawing(51)
	for turn, code := range append(plainCodes(600), grownCodes(60)...) {
		for i, vars := range varsToFuse() {
			steps := []int{len(code), 60, draw(61)}[(turn+i)%3]
			for _, force := range []int{0, draw(1 << 6)} {
				manies[min(wantFastAsModel(t, code, vars, steps, force).many, 5)]++
			}
		}
	}
	if len(manies) != 6 || manies[1] < 500 || manies[5] < 20 {
		t.Error("the test itself hardly has spans that are done at once:", manies)
	}
}
