package tests

import (
	"math"
	"slices"
	"strings"
	"testing"

	"loop.example/g00182/impl"
)

// An outcome is all that Eval answers.
type outcome struct {
	array impl.Array
	vars  []impl.Var
	code  int
	left  int
}

func evalOf(x impl.Tree, vars []impl.Var, steps int) outcome {
	array, then, code, left := impl.Eval(x, vars, steps)
	return outcome{array, then, code, left}
}

func sameOutcome(a outcome, b outcome) bool {
	return alike(a.array, b.array) && sameVars(a.vars, b.vars) && a.code == b.code && a.left == b.left
}

func copiedOutcome(x outcome) outcome {
	return outcome{copied(x.array), copiedVars(x.vars), x.code, x.left}
}

// A slowEval goes down from the last node, and not along the list: what a node
// has on its right, what it has on its left, and then the node itself.
type slowEval struct {
	nodes []impl.Expr
	vars  []impl.Var
	left  int
}

func (s *slowEval) at(i int) (impl.Array, int) {
	x := s.nodes[i]
	var a, b impl.Array
	code := impl.ErNone
	if x.Kind == impl.ExSet || x.Kind == impl.ExOne || x.Kind == impl.ExTwo {
		b, code = s.at(x.B)
	}
	if code == impl.ErNone && x.Kind == impl.ExTwo {
		a, code = s.at(x.A)
	}
	switch {
	case code != impl.ErNone:
		return impl.Array{}, code
	case s.left == 0:
		return impl.Array{}, impl.ErSteps
	}
	s.left--
	switch x.Kind {
	case impl.ExNum:
		if len(x.Nums) == 1 {
			return scalar(x.Nums[0]), impl.ErNone
		}
		return vector(x.Nums...), impl.ErNone
	case impl.ExName:
		if !s.vars[x.A].Set {
			return impl.Array{}, impl.ErValue
		}
		return copied(s.vars[x.A].Value), impl.ErNone
	case impl.ExSet:
		s.vars[x.A] = impl.Var{Set: true, Value: copied(b)}
		return b, impl.ErNone
	case impl.ExOne:
		return wantedDoOne(x.F).does(b, b)
	}
	return wantedDoTwo(x.F).does(a, b)
}

// wantedVarsOk rests on ArrayOk alone.
func wantedVarsOk(vars []impl.Var) bool {
	return len(vars) == 26 && !slices.ContainsFunc(vars, func(v impl.Var) bool {
		return v.Set && !impl.ArrayOk(v.Value) || !v.Set && len(v.Value.Shape)+len(v.Value.Data) > 0
	})
}

func wantedEval(x impl.Tree, vars []impl.Var, steps int) outcome {
	if !wantedTreeOk(x) || !wantedVarsOk(vars) || steps < 0 {
		return outcome{code: impl.ErBad}
	}
	s := &slowEval{x.Nodes, copiedVars(vars), steps}
	array, code := s.at(len(x.Nodes) - 1)
	if code != impl.ErNone {
		return outcome{impl.Array{}, vars, code, s.left}
	}
	return outcome{array, s.vars, impl.ErNone, s.left}
}

func wantEval(t *testing.T, x impl.Tree, vars []impl.Var, steps int, want outcome) {
	t.Helper()
	if got := evalOf(x, vars, steps); !sameOutcome(got, want) {
		t.Errorf("Eval of %q with %d steps and %v = %v; want %v", impl.TreeText(x), steps, vars, got, want)
	}
}

func wantEvalAsModel(t *testing.T, x impl.Tree, vars []impl.Var, steps int) int {
	t.Helper()
	want := wantedEval(x, vars, steps)
	wantEval(t, x, vars, steps, want)
	return want.code
}

func lineTree(t *testing.T, text string) impl.Tree {
	t.Helper()
	x, code := impl.Parse(wordTokens(t, text))
	if code != impl.ErNone {
		t.Fatalf("the test itself writes no line: %q", text)
	}
	return x
}

// wantLine asks what a line comes to, with steps enough, and how the letters
// stand then.
func wantLine(t *testing.T, text string, vars []impl.Var, array impl.Array, then []impl.Var) {
	t.Helper()
	x := lineTree(t, text)
	wantEval(t, x, vars, 100, outcome{array, then, impl.ErNone, 100 - len(x.Nodes)})
}

// wantEnd asks for a code at the node of that number, counted from 1 on.
func wantEnd(t *testing.T, text string, vars []impl.Var, code int, at int) {
	t.Helper()
	x := lineTree(t, text)
	for _, steps := range []int{at, at + 1, 100} {
		wantEval(t, x, vars, steps, outcome{impl.Array{}, vars, code, steps - at})
	}
	for steps := range at {
		wantEval(t, x, vars, steps, outcome{impl.Array{}, vars, impl.ErSteps, 0})
	}
}

func someVars() []impl.Var {
	return varsWith("ABCDZ", scalar(5), vector(1, 2, 3), inShape([]int{2, 2}, 1, 2, 3, 4), vector(), scalar(-top))
}

// setIn has these letters turned, and all others as they were.
func setIn(vars []impl.Var, names string, values ...impl.Array) []impl.Var {
	list := copiedVars(vars)
	for i, v := range varsWith(names, values...) {
		if v.Set {
			list[i] = v
		}
	}
	return list
}

func TestEvalEachKindAlone(t *testing.T) {
	none, some := impl.VarsNew(), someVars()
	wantLine(t, "7", none, scalar(7), none)
	wantLine(t, "_7", none, scalar(-7), none)
	wantLine(t, "7 8 _9", none, vector(7, 8, -9), none)
	wantLine(t, "A", some, scalar(5), some)
	wantLine(t, "B", some, vector(1, 2, 3), some)
	wantLine(t, "C", some, inShape([]int{2, 2}, 1, 2, 3, 4), some)
	wantLine(t, "D", some, vector(), some)
	wantLine(t, "Z", some, scalar(-top), some)
	wantLine(t, "A : 7", none, scalar(7), varsWith("A", scalar(7)))
	wantLine(t, "Z : 7 8", none, vector(7, 8), varsWith("Z", vector(7, 8)))
	wantLine(t, "- 7", none, scalar(-7), none)
	wantLine(t, "9 - 7", none, scalar(2), none)
	wantEnd(t, "E", some, impl.ErValue, 1)
	wantEnd(t, "A", none, impl.ErValue, 1)
	for letter := range byte(26) {
		name := string(rune('A' + letter))
		all := varsWith(name, vector(int(letter), 1))
		wantLine(t, name, all, vector(int(letter), 1), all)
		wantLine(t, name+" : 3", none, scalar(3), varsWith(name, scalar(3)))
		wantEnd(t, name, none, impl.ErValue, 1)
		wantEnd(t, string(rune('A'+(letter+1)%26)), all, impl.ErValue, 1)
	}
}

func TestEvalNums(t *testing.T) {
	none := impl.VarsNew()
	for _, x := range rightNumbers() {
		wantEval(t, treeOf(numNode(x)), none, 1, outcome{scalar(x), none, impl.ErNone, 0})
		wantEval(t, treeOf(numNode(x, 0)), none, 1, outcome{vector(x, 0), none, impl.ErNone, 0})
	}
	for _, long := range []int{2, 3, 299, 300} {
		wantEval(t, treeOf(numNode(numbered(long)...)), none, 1, outcome{vector(numbered(long)...), none, impl.ErNone, 0})
	}
	for _, x := range wrongNumbers() {
		wantEval(t, treeOf(numNode(x)), none, 1, outcome{code: impl.ErBad})
	}
	wantEval(t, treeOf(numNode(numbered(301)...)), none, 1, outcome{code: impl.ErBad})
}

// Each kind within each other one.
func TestEvalKindsWithin(t *testing.T) {
	some := someVars()
	with := func(names string, values ...impl.Array) []impl.Var { return setIn(some, names, values...) }
	wantLine(t, "- 1 2", some, vector(-1, -2), some)
	wantLine(t, "- B", some, vector(-1, -2, -3), some)
	wantLine(t, "- E : 4", some, scalar(-4), with("E", scalar(4)))
	wantLine(t, "- - 4", some, scalar(4), some)
	wantLine(t, "- 9 - 4", some, scalar(-5), some)
	wantLine(t, "E : 1 2", some, vector(1, 2), with("E", vector(1, 2)))
	wantLine(t, "E : B", some, vector(1, 2, 3), with("E", vector(1, 2, 3)))
	wantLine(t, "E : F : 4", some, scalar(4), with("EF", scalar(4), scalar(4)))
	wantLine(t, "E : - 4", some, scalar(-4), with("E", scalar(-4)))
	wantLine(t, "E : 9 - 4", some, scalar(5), with("E", scalar(5)))
	wantLine(t, "9 8 - 1 2", some, vector(8, 6), some)
	wantLine(t, "A - B", some, vector(4, 3, 2), some)
	wantLine(t, "B - A", some, vector(-4, -3, -2), some)
	wantLine(t, "9 - E : 4", some, scalar(5), with("E", scalar(4)))
	wantLine(t, "( E : 9 ) - 4", some, scalar(5), with("E", scalar(9)))
	wantLine(t, "9 - - 4", some, scalar(13), some)
	wantLine(t, "( - 9 ) - 4", some, scalar(-13), some)
	wantLine(t, "9 - 4 - 1", some, scalar(6), some)
	wantLine(t, "( 9 - 4 ) - 1", some, scalar(4), some)
	wantLine(t, "( A - 4 ) - B - 1", some, vector(1, 0, -1), some)
}

// Each function in a line, on what it takes in that line.
func TestEvalEachFunction(t *testing.T) {
	vars := varsWith("ABC", scalar(2), vector(1, 0, 1), inShape([]int{3, 2}, 1, 0, 1, 1, 0, 1))
	for _, f := range funsOfOne() {
		for i, letter := range []byte("ABC") {
			x := treeOf(nameNode(letter), oneNode(f, 0))
			array, code := wantedDoOne(f).does(vars[i].Value, vars[i].Value)
			wantEval(t, x, vars, 7, outcome{array, vars, code, 5})
		}
	}
	for _, f := range funsOfTwo() {
		for i, right := range []byte("ABC") {
			for j, left := range []byte("ABC") {
				x := treeOf(nameNode(right), nameNode(left), twoNode(f, 1, 0))
				array, code := wantedDoTwo(f).does(vars[j].Value, vars[i].Value)
				wantEval(t, x, vars, 7, outcome{array, vars, code, 4})
			}
		}
	}
}

func TestEvalLines(t *testing.T) {
	none := impl.VarsNew()
	for _, c := range []struct {
		text string
		want impl.Array
	}{
		{"2 + 3 * 4", scalar(14)}, {"( 2 + 3 ) * 4", scalar(20)}, {"3 - 1 - 1", scalar(3)}, {"( 3 - 1 ) - 1", scalar(1)}, {"+ / i 5", scalar(10)},
		{"2 2 # i 3", inShape([]int{2, 2}, 0, 1, 2, 0)}, {"( i 3 ) o * 1 2", inShape([]int{3, 2}, 0, 0, 1, 2, 2, 4)}, {"1 2 3 + . * 4 5 6", scalar(32)},
		{"r 1 2 3", vector(3, 2, 1)}, {"2 @ 5 6 7", scalar(7)}, {"~ 1 = 1 2", vector(0, 1)}, {"1 0 1 $ 7 8 9", vector(7, 9)}, {"+ \\ 1 2 3", vector(1, 3, 6)},
		{"( g 3 1 2 ) @ 3 1 2", vector(1, 2, 3)}, {"# # 2 3 # 1", vector(2)}, {"z 2 3 # i 6", inShape([]int{3, 2}, 0, 3, 1, 4, 2, 5)}, {"( 2 t 4 5 6 ) , 2 d 4 5 6", vector(4, 5, 6)},
		{"4 5 6 ? 6 7", vector(2, 3)}, {"( 1 r 4 5 6 ) e 4", vector(0, 0, 1)}, {", 2 2 # 8", vector(8, 8, 8, 8)}, {"- / 5 4 3 2", scalar(2)}, {"_3 % 2", scalar(-2)}, {"3 | _1", scalar(2)},
	} {
		wantLine(t, c.text, none, c.want, none)
	}
}

// A letter is set for what is done behind it: for what stands further left in
// the line, and not for what stands to its right.
func TestEvalRightAheadOfLeft(t *testing.T) {
	none, one := impl.VarsNew(), varsWith("A", scalar(1))
	only := func(x int) []impl.Var { return varsWith("A", scalar(x)) }
	wantLine(t, "A + A : 4", none, scalar(8), only(4))
	wantLine(t, "A + A : 4", one, scalar(8), only(4))
	wantLine(t, "( A : 4 ) + A", one, scalar(5), only(4))
	wantEnd(t, "( A : 4 ) + A", none, impl.ErValue, 1)
	wantLine(t, "( A : 7 ) , A : 2", none, vector(7, 2), only(7))
	wantLine(t, "A , ( A : 7 ) , A : 2", none, vector(7, 7, 2), only(7))
	wantLine(t, "A , ( A : 7 ) , A", one, vector(7, 7, 1), only(7))
	wantLine(t, "( A : A + 1 ) , A : 2", none, vector(3, 2), only(3))
	wantLine(t, "( A : A + 1 ) , A : A + 1", one, vector(3, 2), only(3))
	wantLine(t, "A : A + A : 3", none, scalar(6), only(6))
	wantLine(t, "A : A", one, scalar(1), only(1))
	wantLine(t, "A : A , A : A , A", one, vector(1, 1, 1, 1), varsWith("A", vector(1, 1, 1, 1)))
	wantLine(t, "( ( A : 1 ) , A : 2 ) , ( ( A : 3 ) , A : 4 )", none, vector(1, 2, 3, 4), only(1))
	wantLine(t, "( B : 1 ) , ( C : 2 ) , A : 3", none, vector(1, 2, 3), varsWith("ABC", scalar(3), scalar(1), scalar(2)))
	wantLine(t, "( B , C ) , ( C : 2 ) , B : 3", none, vector(3, 2, 2, 3), varsWith("BC", scalar(3), scalar(2)))
	wantEnd(t, "( B : 1 ) , ( C , B ) , C : 3", none, impl.ErValue, 3)
}

// What one line sets the next one has.
func TestEvalLineByLine(t *testing.T) {
	vars := impl.VarsNew()
	for _, c := range []struct {
		text string
		want impl.Array
		code int
	}{
		{"A", impl.Array{}, impl.ErValue}, {"A : i 4", vector(0, 1, 2, 3), 0}, {"A", vector(0, 1, 2, 3), 0}, {"+ / A", scalar(6), 0}, {"B : 2 2 # A", inShape([]int{2, 2}, 0, 1, 2, 3), 0},
		{"A : B + . * B", inShape([]int{2, 2}, 2, 3, 6, 11), 0}, {"A - B", inShape([]int{2, 2}, 2, 2, 4, 8), 0}, {"A : 1 , A : 9 % 0", impl.Array{}, impl.ErDomain}, {"A", inShape([]int{2, 2}, 2, 3, 6, 11), 0},
		{"C + C : 4", scalar(8), 0}, {"( 1 2 + 1 2 3 ) , C : 7", impl.Array{}, impl.ErLength}, {"C", scalar(4), 0}, {"C : C : C + 1", scalar(5), 0}, {"C", scalar(5), 0}, {"B : C : A : 0 # 0", vector(), 0},
		{"A", vector(), 0}, {"B", vector(), 0}, {"C , 3", vector(3), 0}, {"D", impl.Array{}, impl.ErValue},
	} {
		array, then, code, _ := impl.Eval(lineTree(t, c.text), vars, 100)
		if !alike(array, c.want) || code != c.code || !impl.VarsOk(then) {
			t.Errorf("%q comes to %v, %d; want %v, %d", c.text, array, code, c.want, c.code)
		}
		vars = then
	}
	if want := varsWith("ABC", vector(), vector(), vector()); !sameVars(vars, want) {
		t.Error("behind all lines the letters are", vars)
	}
}

func TestEvalEachCode(t *testing.T) {
	for _, vars := range [][]impl.Var{impl.VarsNew(), someVars(), slices.Repeat([]impl.Var{{Set: true, Value: vector(4, 4)}}, 26)} {
		wantEnd(t, "1 % 0", vars, impl.ErDomain, 3)
		wantEnd(t, "~ 2", vars, impl.ErDomain, 2)
		wantEnd(t, "i _1", vars, impl.ErDomain, 2)
		wantEnd(t, "1 2 + 1 2 3", vars, impl.ErLength, 3)
		wantEnd(t, "i 1 2", vars, impl.ErLength, 2)
		wantEnd(t, "g 3", vars, impl.ErRank, 2)
		wantEnd(t, "1 2 + 2 2 # 3", vars, impl.ErRank, 5)
		wantEnd(t, "2 @ 5 6", vars, impl.ErIndex, 3)
		wantEnd(t, "1000000000000 + 1", vars, impl.ErLimit, 3)
		wantEnd(t, "* / 1000000 1000000 2", vars, impl.ErLimit, 2)
		wantEnd(t, "i 301", vars, impl.ErLimit, 2)
		wantEnd(t, "( i 200 ) , i 101", vars, impl.ErLimit, 5)
	}
	wantEnd(t, "- Q", someVars(), impl.ErValue, 1)
	wantEnd(t, "1 + Q", someVars(), impl.ErValue, 1)
	wantEnd(t, "Q + 1", someVars(), impl.ErValue, 2)
	wantEnd(t, "A : Q", someVars(), impl.ErValue, 1)
}

// Of several codes that of the node that is done first counts, and where there
// is no step left for that node ErSteps does.
func TestEvalWhichCodeIsFirst(t *testing.T) {
	some := someVars()
	wantEnd(t, "( 1 % 0 ) + 1 2 + 1 2 3", some, impl.ErLength, 3)
	wantEnd(t, "( 1 2 + 1 2 3 ) + 1 % 0", some, impl.ErDomain, 3)
	wantEnd(t, "E + 1 % 0", some, impl.ErDomain, 3)
	wantEnd(t, "( 1 % 0 ) + E", some, impl.ErValue, 1)
	wantEnd(t, "E + F", some, impl.ErValue, 1)
	wantEnd(t, "~ i 1 % 0", some, impl.ErDomain, 3)
	wantEnd(t, "g 5 + ~ 1 2", some, impl.ErDomain, 2)
	wantEnd(t, "( g 5 ) @ 1 2 % 1", some, impl.ErRank, 5)
	wantEnd(t, "A : B : 7 @ C : 1 2", some, impl.ErIndex, 4)
	wantEnd(t, "1 + ( 2 @ 1 2 ) + ( 1 % 0 ) + 1 2", some, impl.ErDomain, 4)
}

// With a code no letter is set, whatever the nodes ahead of it set.
func TestEvalSetsNothingWithACode(t *testing.T) {
	for _, vars := range [][]impl.Var{impl.VarsNew(), someVars(), varsWith("AEZ", vector(8), vector(9), vector(1, 1))} {
		for _, set := range []string{"A : 4", "A : B : E : 4", "A : i 3", "Z : ( E : 3 ) + A : 2", "A : 1 + A : 2 + A : 3"} {
			ahead := len(lineTree(t, set).Nodes)
			wantEnd(t, "~ 2 , "+set, vars, impl.ErDomain, ahead+3)
			wantEnd(t, "( 1 % 0 ) , "+set, vars, impl.ErDomain, ahead+3)
			wantEnd(t, "Q , "+set, vars, impl.ErValue, ahead+1)
			wantEnd(t, "( C : Q ) , "+set, vars, impl.ErValue, ahead+1)
			wantEnd(t, "( 5 @ D : 1 2 ) , "+set, vars, impl.ErIndex, ahead+4)
			wantEnd(t, "F : _1 # G : "+set, vars, impl.ErDomain, ahead+3)
		}
	}
}

func TestEvalSteps(t *testing.T) {
	for _, text := range []string{"7", "A", "E : 7", "- 7", "1 + 2", "E : 3 + A", "( E : 1 ) + ( F : 2 ) + G : 3", "+ / i 5", "C : ( B + 1 ) , E : A"} {
		x := lineTree(t, text)
		need := len(x.Nodes)
		full := wantedEval(x, someVars(), need)
		if full.code != impl.ErNone || full.left != 0 {
			t.Fatal("the test itself has a line with a code:", text)
		}
		for steps := range need {
			wantEval(t, x, someVars(), steps, outcome{impl.Array{}, someVars(), impl.ErSteps, 0})
		}
		for _, more := range []int{0, 1, 2, 3, 59, 60, 61, 100, 1 << 31, 1 << 32, top, math.MaxInt - need} {
			wantEval(t, x, someVars(), need+more, outcome{full.array, full.vars, impl.ErNone, more})
		}
		for _, steps := range []int{-1, -2, -need, -60, -1 << 32, -top, math.MinInt} {
			wantEval(t, x, someVars(), steps, outcome{code: impl.ErBad})
		}
	}
}

func TestEvalUpToTheMostNodes(t *testing.T) {
	vars := slices.Repeat([]impl.Var{{Set: true, Value: scalar(3)}}, 26)
	codes := map[int]int{}
	for _, count := range []int{58, 59, 60} {
		for _, line := range linesOfNodes(count) {
			x := lineTree(t, line)
			for _, steps := range []int{0, 1, 30, count - 2, count - 1, count, count + 1, 1000, math.MaxInt} {
				codes[wantEvalAsModel(t, x, vars, steps)]++
			}
		}
	}
	if codes[impl.ErNone] < 40 || codes[impl.ErSteps] < 40 {
		t.Error("the test itself has", codes)
	}
	x := lineTree(t, strings.Repeat("- ", 59)+"1")
	wantEval(t, x, vars, 61, outcome{scalar(-1), vars, impl.ErNone, 1})
	x.Nodes = append(x.Nodes, oneNode(plainFun('-'), 59))
	wantEval(t, x, vars, 61, outcome{code: impl.ErBad})
	var all []impl.Expr
	for letter := byte('A'); letter <= 'Z'; letter++ {
		all = append(all, setNode(letter, len(all)))
	}
	x = treeOf(append([]impl.Expr{numNode(6, 7)}, all...)...)
	wantEval(t, x, vars, 30, outcome{vector(6, 7), slices.Repeat([]impl.Var{{Set: true, Value: vector(6, 7)}}, 26), impl.ErNone, 3})
}

// What is not right counts ahead of every code and of no steps, and nothing is
// answered beside it.
func TestEvalBad(t *testing.T) {
	bad := outcome{code: impl.ErBad}
	rightTrees := []impl.Tree{lineTree(t, "1"), lineTree(t, "A : 2"), lineTree(t, "Q"), lineTree(t, "1 % 0"), lineTree(t, "1 + 2")}
	wrongTrees := []impl.Tree{{}, treeOf([]impl.Expr{}...), treeOf(numNode()), treeOf(numNode(top + 1)), treeOf(numNode(1), numNode(2)), treeOf(setNode('A', 0)), treeOf(numNode(1), oneNode(plainFun('%'), 0)),
		treeOf(numNode(1), numNode(2), twoNode(plainFun('i'), 1, 0)), treeOf(numNode(1), numNode(2), twoNode(plainFun('+'), 0, 1)), treeOf(nameNode('A' - 1)), treeOf(nameNode('Z' + 1)), treeOf(impl.Expr{}),
		treeOf(numNode(1), setNode('Z'+1, 0)), treeOf(numNode(1), impl.Expr{Kind: 6}), treeOf(slices.Repeat([]impl.Expr{numNode(1)}, 61)...), treeOf(numNode(1), oneNode(plainFun('-'), 1)), treeOf(numNode(1), oneNode(plainFun('-'), -1))}
	rightVars := [][]impl.Var{impl.VarsNew(), someVars()}
	wrongVars := [][]impl.Var{nil, {}, make([]impl.Var, 25), make([]impl.Var, 27), someVars()[1:], append(someVars(), impl.Var{}), setIn(someVars(), "Y", impl.Array{}), setIn(someVars(), "A", scalar(top+1)),
		setIn(someVars(), "B", inShape([]int{2}, 1)), append([]impl.Var{{Value: scalar(1)}}, make([]impl.Var, 25)...), append(make([]impl.Var, 25), impl.Var{Value: impl.Array{Shape: []int{0}}})}
	for _, steps := range []int{-1, math.MinInt, 0, 1, 2, 100, math.MaxInt} {
		for _, x := range append(slices.Clone(rightTrees), wrongTrees...) {
			for _, vars := range wrongVars {
				wantEval(t, x, vars, steps, bad)
			}
		}
		for _, vars := range rightVars {
			for _, x := range wrongTrees {
				wantEval(t, x, vars, steps, bad)
			}
			for _, x := range rightTrees {
				if steps < 0 {
					wantEval(t, x, vars, steps, bad)
				} else if got := evalOf(x, vars, steps); got.code == impl.ErBad || len(got.vars) != 26 {
					t.Error("right, but refused:", x, vars, steps, got)
				}
			}
		}
	}
}

// Each node of some trees is spoiled in every way: what is still a tree comes
// to what it says, all else to ErBad.
func TestEvalOfSpoiledTrees(t *testing.T) {
	vars := slices.Repeat([]impl.Var{{Set: true, Value: scalar(2)}}, 26)
	codes := map[int]int{}
	for _, text := range []string{"7", "A", "A : 3", "- 3", "3 - 4", "( A : 3 ) - - 4", "B : + / 1 2 , A"} {
		x := lineTree(t, text)
		for i := range x.Nodes {
			for _, node := range spoiledNodes(x.Nodes[i], len(x.Nodes)) {
				y := copiedTree(x)
				y.Nodes[i] = node
				codes[wantEvalAsModel(t, y, vars, 9)]++
				wantEvalAsModel(t, y, vars, 1)
			}
		}
	}
	if codes[impl.ErNone] < 50 || codes[impl.ErBad] < 100 {
		t.Error("the test itself hardly has both:", codes)
	}
}

// tamedTrees are drawn by a fixed rule, of functions that seldom have a code,
// so that many come to something; their letters are few, set and asked for.
func tamedTrees(count int) []impl.Tree {
	g := newGarden(31)
	for _, sign := range []byte("+-*|#,rz") {
		g.ones = append(g.ones[:len(g.ones):len(g.ones)], plainFun(sign), plainFun(sign), operFun('+', '/'), operFun('&', '\\'))
	}
	for _, sign := range []byte("+-&^=<>,,,,eeee") {
		g.twos = append(g.twos[:len(g.twos):len(g.twos)], slices.Repeat([]impl.Fun{plainFun(sign)}, 8)...)
	}
	var list []impl.Tree
	for i := range count {
		x := impl.Tree{Nodes: g.grow(1 + i%60).nodes}
		for j, node := range x.Nodes {
			if node.Kind == impl.ExName || node.Kind == impl.ExSet {
				x.Nodes[j].A = g.draw(5)
			}
			if len(node.Nums) > 1 && g.draw(3) > 0 {
				x.Nodes[j].Nums = node.Nums[:1]
			}
		}
		list = append(list, x)
	}
	return list
}

// varsToTry has letters of which more and more are set.
func varsToTry() [][]impl.Var {
	all := slices.Repeat([]impl.Var{{Set: true, Value: scalar(1)}}, 26)
	return [][]impl.Var{impl.VarsNew(), someVars(), setIn(someVars(), "E", scalar(0)), all, setIn(all, "AC", vector(3, -4), vector())}
}

// Promise 10: with more steps a line comes to the same; with fewer it ends for
// want of them, or as before, where it did not come so far. With a code no
// letter is set.
func TestWithMoreStepsALineComesToTheSame(t *testing.T) {
	codes := map[int]int{}
	for turn, x := range append(tamedTrees(1200), treesOf(grownTrees(300))...) {
		vars := varsToTry()[turn%5]
		full := evalOf(x, vars, math.MaxInt)
		need := math.MaxInt - full.left
		if need < 1 || need > len(x.Nodes) || full.code == impl.ErNone && need != len(x.Nodes) {
			t.Errorf("%q takes %d steps", impl.TreeText(x), need)
		}
		if full.code != impl.ErNone && (!sameVars(full.vars, vars) || !alike(full.array, impl.Array{})) {
			t.Errorf("%q sets a letter, or comes to something, with the code %d: %v", impl.TreeText(x), full.code, full)
		}
		for steps := range len(x.Nodes) + 3 {
			want := outcome{full.array, full.vars, full.code, steps - need}
			if steps < need {
				want = outcome{impl.Array{}, vars, impl.ErSteps, 0}
			}
			wantEval(t, x, vars, steps, want)
		}
		codes[full.code]++
	}
	if codes[impl.ErNone] < 200 || len(codes) < 6 {
		t.Error("the test itself hardly has lines of each kind:", codes)
	}
}

func treesOf(list []grown) []impl.Tree {
	var trees []impl.Tree
	for _, x := range list {
		trees = append(trees, impl.Tree{Nodes: x.nodes})
	}
	return trees
}

func TestEvalAsModel(t *testing.T) {
	codes, set := map[int]int{}, 0
	for turn, x := range append(tamedTrees(3000), treesOf(grownTrees(1000))...) {
		for i, vars := range varsToTry() {
			for _, steps := range []int{len(x.Nodes), len(x.Nodes) + i, turn % 40} {
				codes[wantEvalAsModel(t, x, vars, steps)]++
			}
			got := evalOf(x, vars, 60)
			if got.code == impl.ErNone && (!impl.ArrayOk(got.array) || !impl.VarsOk(got.vars)) {
				t.Errorf("%q comes to what is not right: %v", impl.TreeText(x), got)
			}
			if !sameVars(got.vars, vars) {
				set++
			}
		}
	}
	if codes[impl.ErNone] < 1000 || codes[impl.ErSteps] < 1000 || len(codes) < 7 || set < 500 {
		t.Error("the test itself hardly has lines of each kind:", codes, set)
	}
}
