package tests

import (
	"math"
	"slices"
	"testing"

	"loop.example/g00182/impl"
)

// wantedFused does a span array by array, and not place by place.
func wantedFused(code []impl.Instr, s impl.Span, vars []impl.Var) (impl.Array, bool) {
	if !wantedVarsOk(vars) || !slices.Contains(wantedSpans(code), s) {
		return impl.Array{}, false
	}
	var stack, wide []impl.Array
	for _, in := range code[s.From:s.To] {
		takes, a, how := wantedTop(in, stack, vars)
		if how != impl.ErNone {
			return impl.Array{}, false
		}
		if takes == 0 && len(a.Shape) > 0 {
			wide = append(wide, a)
		}
		stack = append(stack[:len(stack)-takes], a)
	}
	for _, a := range wide {
		if len(a.Data) == 0 || !slices.Equal(a.Shape, wide[0].Shape) {
			return impl.Array{}, false
		}
	}
	return stack[0], true
}

func wantFused(t *testing.T, code []impl.Instr, s impl.Span, vars []impl.Var, want impl.Array, ok bool) {
	t.Helper()
	if got, is := impl.FuseTry(code, s, vars); is != ok || !alike(got, want) {
		t.Errorf("FuseTry(%v, %v, %v) = %v, %t; want %v, %t", code, s, vars, got, is, want, ok)
	}
}

func wantNotFused(t *testing.T, code []impl.Instr, s impl.Span, vars []impl.Var) {
	t.Helper()
	wantFused(t, code, s, vars, impl.Array{}, false)
}

func wantFusedAsModel(t *testing.T, code []impl.Instr, s impl.Span, vars []impl.Var) bool {
	t.Helper()
	want, ok := wantedFused(code, s, vars)
	wantFused(t, code, s, vars, want, ok)
	return ok
}

// wantLineFused asks for the first span of a line.
func wantLineFused(t *testing.T, text string, vars []impl.Var, want impl.Array) {
	t.Helper()
	code := wantedCode(lineTree(t, text).Nodes)
	wantFused(t, code, wantedSpans(code)[0], vars, want, true)
	wantFusedAsModel(t, code, wantedSpans(code)[0], vars)
}

func wantLineNotFused(t *testing.T, vars []impl.Var, texts ...string) {
	t.Helper()
	for _, text := range texts {
		code := wantedCode(lineTree(t, text).Nodes)
		wantNotFused(t, code, wantedSpans(code)[0], vars)
		wantFusedAsModel(t, code, wantedSpans(code)[0], vars)
	}
}

func TestFuseTryOrdinary(t *testing.T) {
	none := impl.VarsNew()
	cube := repeated([]int{2, 1, 2}, []int{1, 2, 3, 4}, 0)
	vars := varsWith("ABCDE", vector(1, 2, 3), scalar(10), inShape([]int{2, 2}, 1, -2, 3, -4), cube, vector(7))
	wantLineFused(t, "- 7", none, scalar(-7))
	wantLineFused(t, "9 - 7", none, scalar(2))
	wantLineFused(t, "- 7 8", none, vector(-7, -8))
	wantLineFused(t, "9 - 7 8", none, vector(2, 1))
	wantLineFused(t, "7 8 - 9", none, vector(-2, -1))
	wantLineFused(t, "7 8 - 9 4", none, vector(-2, 4))
	wantLineFused(t, "- A", vars, vector(-1, -2, -3))
	wantLineFused(t, "B - A", vars, vector(9, 8, 7))
	wantLineFused(t, "A - B", vars, vector(-9, -8, -7))
	wantLineFused(t, "| C", vars, inShape([]int{2, 2}, 1, 2, 3, 4))
	wantLineFused(t, "C * C", vars, inShape([]int{2, 2}, 1, 4, 9, 16))
	wantLineFused(t, "B - D", vars, inShape([]int{2, 1, 2}, 9, 8, 7, 6))
	wantLineFused(t, "- E", vars, vector(-7))
	wantLineFused(t, "B - E", vars, vector(3))
	wantLineFused(t, "A * 2 + A", vars, vector(3, 8, 15))
	wantLineFused(t, "B : + / A * 2 + A", vars, vector(3, 8, 15))
	wantLineFused(t, "( A - 2 ) - ( B - 1 ) - A", vars, vector(-9, -7, -5))
	wantLineFused(t, "( ( 9 - 4 ) - 1 ) - 6 - 5 - 8", none, scalar(-5))
	// The second span, and the third one.
	code := wantedCode(lineTree(t, "( 1 + A ) , ( 3 + B ) , 5 + 6").Nodes)
	for i, want := range []impl.Array{scalar(11), scalar(13), vector(2, 3, 4)} {
		wantFused(t, code, wantedSpans(code)[i], vars, want, true)
	}
	// What is on top is on the left.
	wantFused(t, codeOf(numInstr(2), numInstr(9), twoInstr(plainFun('%'))), spansOf(0, 3)[0], none, scalar(4), true)
	wantFused(t, deepCode(30), spansOf(0, 59)[0], none, scalar(3-29*3), true)
}

// Each sign is done to each number, and has its code where One or Two has one.
func TestFuseTryEachSign(t *testing.T) {
	some, none := 0, 0
	count := func(fused bool) {
		if fused {
			some++
		} else {
			none++
		}
	}
	for _, sign := range []byte(signsOfOne) {
		code := codeOf(loadInstr('A'), oneInstr(plainFun(sign)))
		for _, x := range rightNumbers() {
			y, how := wantedOne(sign, x)
			count(how == impl.ErNone)
			if how != impl.ErNone {
				wantNotFused(t, code, spansOf(0, 2)[0], varsWith("A", scalar(x)))
				continue
			}
			wantFused(t, code, spansOf(0, 2)[0], varsWith("A", scalar(x)), scalar(y), true)
			wantFused(t, code, spansOf(0, 2)[0], varsWith("A", vector(x, x)), vector(y, y), true)
		}
	}
	for _, sign := range []byte(signsOfTwo) {
		code := codeOf(loadInstr('B'), loadInstr('A'), twoInstr(plainFun(sign)))
		for _, a := range rightNumbers() {
			for _, b := range rightNumbers() {
				y, how := wantedTwo(sign, a, b)
				count(how == impl.ErNone)
				if how != impl.ErNone {
					wantNotFused(t, code, spansOf(0, 3)[0], varsWith("AB", scalar(a), vector(b)))
					continue
				}
				wantFused(t, code, spansOf(0, 3)[0], varsWith("AB", scalar(a), scalar(b)), scalar(y), true)
				wantFused(t, code, spansOf(0, 3)[0], varsWith("AB", vector(a), scalar(b)), vector(y), true)
			}
		}
	}
	if some < 10000 || none < 1000 {
		t.Error("the test itself hardly has both:", some, none)
	}
}

// Each pair of shapes, and each beside arrays of rank 0.
func TestFuseTryShapes(t *testing.T) {
	pair := codeOf(loadInstr('B'), loadInstr('A'), twoInstr(plainFun('-')))
	three := codeOf(loadInstr('C'), loadInstr('B'), loadInstr('A'), twoInstr(plainFun('-')), twoInstr(plainFun('-')))
	for _, x := range someShapes() {
		a := numberedArray(x)
		ok := wantFusedAsModel(t, codeOf(loadInstr('A'), oneInstr(plainFun('-'))), spansOf(0, 2)[0], varsWith("A", a))
		if ok != (len(a.Data) > 0) {
			t.Error("a guard holds, or does not:", x, ok)
		}
		for _, y := range someShapes() {
			b := numberedArray(y)
			want := len(a.Data) > 0 && len(b.Data) > 0 && (len(x) == 0 || len(y) == 0 || slices.Equal(x, y))
			if got := wantFusedAsModel(t, pair, spansOf(0, 3)[0], varsWith("AB", a, b)); got != want {
				t.Error("a guard holds, or does not:", x, y, got)
			}
		}
		for _, y := range smallShapes() {
			for _, z := range smallShapes() {
				wantFusedAsModel(t, three, spansOf(0, 5)[0], varsWith("ABC", a, numberedArray(y), numberedArray(z)))
			}
		}
	}
	// Of one number, but of rank 1 and above, it is no scalar.
	for _, x := range [][]int{{1}, {1, 1}, {1, 1, 1}} {
		one := inShape(x, 5)
		wantNotFused(t, pair, spansOf(0, 3)[0], varsWith("AB", one, vector(1, 2)))
		wantNotFused(t, pair, spansOf(0, 3)[0], varsWith("AB", vector(1, 2), one))
		wantFused(t, pair, spansOf(0, 3)[0], varsWith("AB", one, scalar(2)), inShape(x, 3), true)
		wantFused(t, pair, spansOf(0, 3)[0], varsWith("AB", one, one), inShape(x, 0), true)
	}
	// As many numbers, but in another shape.
	wantNotFused(t, pair, spansOf(0, 3)[0], varsWith("AB", numberedArray([]int{2, 3}), numberedArray([]int{3, 2})))
	wantNotFused(t, pair, spansOf(0, 3)[0], varsWith("AB", numberedArray([]int{6}), numberedArray([]int{6, 1})))
	// The shape stands first, in the middle and last.
	for i := range 3 {
		arrays := []impl.Array{scalar(1), scalar(2), scalar(3)}
		arrays[i] = vector(5, 6)
		if !wantFusedAsModel(t, three, spansOf(0, 5)[0], varsWith("ABC", arrays...)) {
			t.Error("a guard does not hold:", arrays)
		}
		arrays[(i+1)%3] = vector(5, 6, 7)
		wantNotFused(t, three, spansOf(0, 5)[0], varsWith("ABC", arrays...))
		arrays[(i+1)%3] = vector()
		wantNotFused(t, three, spansOf(0, 5)[0], varsWith("ABC", arrays...))
	}
}

// Where there is no place at all, what the rest of it comes to counts not.
func TestFuseTryWithoutANumber(t *testing.T) {
	for _, shape := range emptyShapes() {
		vars := varsWith("AB", inShape(shape), scalar(4))
		wantLineNotFused(t, vars, "- A", "A + A", "A + 1", "1 + A", "( 1 + A ) + 1", "A + 1 % 0", "A + 1 2 3", "B + A")
	}
	wantLineNotFused(t, impl.VarsNew(), "1 + 1 2 % 0", "1 2 + 1 % 0")
}

// A letter of the span that is not Set, and one outside it.
func TestFuseTryLetters(t *testing.T) {
	all := slices.Repeat([]impl.Var{{Set: true, Value: vector(4, 5)}}, 26)
	for letter := byte('A'); letter <= 'Z'; letter++ {
		but := copiedVars(all)
		but[letter-'A'] = impl.Var{}
		code := codeOf(loadInstr(letter), oneInstr(plainFun('-')))
		wantFused(t, code, spansOf(0, 2)[0], all, vector(-4, -5), true)
		wantNotFused(t, code, spansOf(0, 2)[0], but)
		wantFused(t, code, spansOf(0, 2)[0], varsWith(string(letter), scalar(8)), scalar(-8), true)
		wantNotFused(t, code, spansOf(0, 2)[0], impl.VarsNew())
	}
	only := varsWith("A", scalar(3))
	wantLineNotFused(t, only, "A + B", "B + A", "A + A + B", "( - B ) + A", "1 + B")
	wantLineFused(t, "B , - A", only, scalar(-3))
	wantLineFused(t, "B : - A", only, scalar(-3))
	wantLineFused(t, "( B : 4 ) + - A", only, scalar(-3))
	wantLineFused(t, "( - B ) , - A", only, scalar(-3))
	// Letters are as they are handed in: what code sets ahead of a span, or has
	// set there, is not looked at.
	code := wantedCode(lineTree(t, "( - A ) , A : - 5").Nodes)
	wantFused(t, code, spansOf(3, 5)[0], only, scalar(-3), true)
	wantNotFused(t, code, spansOf(3, 5)[0], impl.VarsNew())
	wantFused(t, code, spansOf(0, 2)[0], impl.VarsNew(), scalar(-5), true)
}

// A sign has a code at one place: the first one, a middle one, the last one;
// by the first step, or by a later one, which may lead back to right numbers.
func TestFuseTryWithACode(t *testing.T) {
	for _, long := range []int{1, 2, 3, 5, 299, 300} {
		for _, at := range []int{0, long / 2, long - 1} {
			with := func(x int, other int) impl.Array {
				a := vector(slices.Repeat([]int{other}, long)...)
				a.Data[at] = x
				return a
			}
			wantLineNotFused(t, varsWith("A", with(2, 1)), "~ A", "- ~ A", "0 * ~ A", "A * ~ A")
			wantLineNotFused(t, varsWith("A", with(-1, 0)), "~ A", "~ - - A")
			wantLineNotFused(t, varsWith("A", with(0, 3)), "1 % A", "A % A", "0 * 1 % A", "0 & - 1 % 0 + A")
			wantLineNotFused(t, varsWith("A", with(top, 3)), "A + 1", "1 + A", "A * A", "_1 - A", "_1 + 1 + A", "0 & 1 + A", "( A + A ) - A", "0 * A * A")
			wantLineNotFused(t, varsWith("A", with(-top, 3)), "A - 1", "A + A", "A * 2", "1 + A - 1")
			wantLineFused(t, "0 * A", varsWith("A", with(top, 3)), vector(make([]int, long)...))
			wantLineFused(t, "A - A", varsWith("A", with(-top, 3)), vector(make([]int, long)...))
			wantLineFused(t, "~ A = A", varsWith("A", with(top, 3)), vector(make([]int, long)...))
		}
	}
	// A code of arrays of rank 0 alone, beside those that have none.
	vars := varsWith("AT", vector(1, 2, 3), scalar(top))
	wantLineNotFused(t, vars, "A + 1 % 0", "( 1 % 0 ) + A", "A & T + 1", "( ~ 2 ) , 1", "A + ~ 2", "~ T", "T * T", "1 % 0", "1 + 1 % 0")
	wantLineFused(t, "A & T + _1", vars, vector(1, 2, 3))
}

// spansToTry are all spans about code, and ones far off.
func spansToTry(long int) []impl.Span {
	far := []int{math.MinInt, -1 << 62, -1<<32 + 1, -1 << 31, -61, 61, 1 << 31, 1 << 32, 1<<32 + 2, 1 << 62, math.MaxInt}
	var list []impl.Span
	for from := -3; from <= long+3; from++ {
		for to := -3; to <= long+3; to++ {
			list = append(list, impl.Span{From: from, To: to})
		}
		for _, x := range far {
			list = append(list, impl.Span{From: from, To: x}, impl.Span{From: x, To: from}, impl.Span{From: x, To: x + from})
		}
	}
	return list
}

// Each span that is none of Spans has no answer, even if it is a run.
func TestFuseTryOfOtherSpans(t *testing.T) {
	vars := slices.Repeat([]impl.Var{{Set: true, Value: vector(1, 0, 1)}}, 26)
	some, runs := 0, 0
	for _, code := range append(plainCodes(60), spanCode(20), deepCode(30), codeOf(numInstr(1)), codeOf(numInstr(1), oneInstr(plainFun('-')))) {
		spans := wantedSpans(code)
		for _, s := range spansToTry(len(code)) {
			if slices.Contains(spans, s) {
				if wantFusedAsModel(t, code, s, vars) {
					some++
				}
				continue
			}
			wantNotFused(t, code, s, vars)
			if s.From >= 0 && s.To <= len(code) && s.From < s.To && isRun(code, s.From, s.To) {
				runs++
			}
		}
	}
	if some < 30 || runs < 100 {
		t.Error("the test itself hardly has runs:", some, runs)
	}
	code := codeOf(numInstr(1), oneInstr(plainFun('-')), oneInstr(plainFun('-')), numInstr(2), twoInstr(plainFun('+')))
	for _, s := range spansOf(0, 1, 0, 2, 0, 3, 0, 4, 1, 3, 3, 4, 3, 5, 1, 5, 5, 0, 0, 0, 5, 5, 0, 6, -1, 5, -5, 0) {
		wantNotFused(t, code, s, vars)
	}
	wantFused(t, code, spansOf(0, 5)[0], vars, scalar(3), true)
}

func TestFuseTryOfWhatIsNotRight(t *testing.T) {
	for _, code := range wrongCodesToTry() {
		for _, s := range spansToTry(4) {
			wantNotFused(t, code, s, someVars())
		}
		for to := range len(code) + 1 {
			wantNotFused(t, code, impl.Span{To: to}, impl.VarsNew())
		}
	}
	right := codeOf(loadInstr('A'), oneInstr(plainFun('-')))
	plain := codeOf(numInstr(1), oneInstr(plainFun('-')))
	for _, vars := range wrongVarsToTry() {
		wantNotFused(t, right, spansOf(0, 2)[0], vars)
		wantNotFused(t, plain, spansOf(0, 2)[0], vars)
		wantNotFused(t, plain, spansOf(2, 0)[0], vars)
		wantNotFused(t, nil, spansOf(0, 2)[0], vars)
	}
	// Each letter may be the wrong one, though the span asks for none.
	for i := range 26 {
		for _, v := range []impl.Var{{Set: true}, {Value: scalar(1)}, {Value: vector()}, {Set: true, Value: scalar(top + 1)}, {Set: true, Value: inShape([]int{2}, 1)}, {Set: true, Value: inShape([]int{301}, numbered(301)...)}} {
			vars := varsWith("A", scalar(6))
			vars[i] = v
			wantNotFused(t, plain, spansOf(0, 2)[0], vars)
		}
	}
	empty := slices.Repeat([]impl.Var{{Value: impl.Array{Shape: []int{}, Data: []int{}}}}, 26)
	wantFused(t, plain, spansOf(0, 2)[0], empty, scalar(-1), true)
	wantNotFused(t, right, spansOf(0, 2)[0], empty)
}

// varsToFuse have letters of rank 0, of one shape and of several, without a
// number, and not set.
func varsToFuse() [][]impl.Var {
	all := slices.Repeat([]impl.Var{{Set: true, Value: vector(2, -1, 1)}}, 26)
	matrix := slices.Repeat([]impl.Var{{Set: true, Value: inShape([]int{2, 2}, 1, 0, -3, 4)}}, 26)
	return append(varsToTry(), all, matrix, setIn(all, "BD", scalar(0), scalar(-2)), setIn(matrix, "AC", scalar(1), scalar(3)), setIn(all, "C", vector(1, 2)), setIn(all, "E", vector(top, 0, 1)))
}

func TestFuseTryAsModel(t *testing.T) {
	some, none := 0, 0
	for _, code := range append(plainCodes(1200), grownCodes(120)...) {
		for _, s := range wantedSpans(code) {
			for _, vars := range varsToFuse() {
				if wantFusedAsModel(t, code, s, vars) {
					some++
				} else {
					none++
				}
			}
		}
	}
	if some < 1000 || none < 1000 {
		t.Error("the test itself hardly has both:", some, none)
	}
}
