package tests

import (
	"slices"
	"testing"

	"loop.example/g00182/impl"
)

// guardedLine is what is handed in to Eval, with spare room behind each of its
// lists, and what all of it must look like behind every call.
type guardedLine struct {
	tree, room  impl.Tree
	roomWas     impl.Tree
	vars, spare []impl.Var
	spareWas    []impl.Var
	values      []guarded
}

func guardLine(x impl.Tree, vars []impl.Var) guardedLine {
	var g guardedLine
	g.tree, g.room = spareTree(x)
	g.roomWas = withRoom(g.room)
	for _, v := range vars {
		value := guard(v.Value)
		g.values = append(g.values, value)
		g.spare = append(g.spare, impl.Var{Set: v.Set, Value: value.array})
	}
	g.spare = append(g.spare, impl.Var{Set: true, Value: scalar(61)}, impl.Var{Value: vector(62)})
	g.vars, g.spareWas = g.spare[:len(vars)], copiedVars(g.spare)
	return g
}

func (g guardedLine) check(t *testing.T) {
	t.Helper()
	if !sameTree(withRoom(g.room), g.roomWas) || !sameVars(g.spare, g.spareWas) {
		t.Error("written into:", g.roomWas, g.room, g.spareWas, g.spare)
	}
	for _, value := range g.values {
		value.check(t)
	}
}

// scribble writes over all that was handed in.
func (g guardedLine) scribble() {
	for _, node := range g.room.Nodes {
		scribble(node.Nums)
	}
	scribbleNodes(g.room.Nodes)
	for _, value := range g.values {
		scribble(value.shape)
		scribble(value.data)
	}
	scribbleVars(g.spare)
}

// scribbleVars writes over the letters and the room behind them, but leaves
// what their lists were to be looked at.
func scribbleVars(vars []impl.Var) {
	all := vars[:cap(vars)]
	for i := range all {
		all[i] = impl.Var{Set: !all[i].Set, Value: vector(91, 92)}
	}
	_ = append(vars, impl.Var{Set: true})
}

// listsOf has each list of numbers of an answer.
func listsOf(x outcome) [][]int {
	lists := [][]int{x.array.Shape, x.array.Data}
	for _, v := range x.vars {
		lists = append(lists, v.Value.Shape, v.Value.Data)
	}
	return lists
}

func linesForOwnMemory(t *testing.T) []impl.Tree {
	var trees []impl.Tree
	for _, text := range []string{"1", "1 2 3", "A", "B", "C", "D", "Q", "E : 1", "E : 1 2 3", "E : A", "E : C", "A : A", "C : C", "E : F : 1 2 3", "E : F : G : C", "( E : C ) , F : C",
		"+ B", "r A", "z B", ", B", "0 r B", "2 2 # C", "C , D", "0 d B", "3 t B", "+ / A", "+ \\ A", "# A", "E : + F : # G : C", "B : 4 5 , B : 7", "B + B", "B , B", "C + . * C", "1 % 0", "B , ( 1 % 0 ) , E : B",
		"Q , B : 8 9", "( B : 1 ) , ( C : 2 ) , ( D : 3 ) , ( E : 4 ) , F : 5", "E : D", "D , D : B"} {
		trees = append(trees, lineTree(t, text))
	}
	return append(trees, append(tamedTrees(60), impl.Tree{}, treeOf(numNode(1), numNode(2)))...)
}

// A write into any list of an answer, or behind it, turns no other one.
func wantOwnLists(t *testing.T, x impl.Tree, vars []impl.Var, steps int) {
	t.Helper()
	was := copiedOutcome(evalOf(x, vars, steps))
	for i := range listsOf(was) {
		got := evalOf(x, vars, steps)
		lists := listsOf(got)
		scribble(lists[i])
		for j, list := range listsOf(was) {
			if j != i && !slices.Equal(lists[j], list) {
				t.Errorf("%q: a write into list %d of the answer turns list %d: %v, %v", impl.TreeText(x), i, j, lists[j], list)
			}
		}
	}
	got := evalOf(x, vars, steps)
	lists := listsOf(got)
	scribbleVars(got.vars)
	if !slices.EqualFunc(lists, listsOf(was), slices.Equal) {
		t.Errorf("%q: a write into the letters turns what they were", impl.TreeText(x))
	}
}

func TestEvalIsNewMemory(t *testing.T) {
	for turn, x := range linesForOwnMemory(t) {
		for _, vars := range varsToTry() {
			for _, steps := range []int{60, turn % 5} {
				g := guardLine(x, vars)
				wantOwnLists(t, g.tree, g.vars, steps)
				g.check(t)
				wantEval(t, g.tree, g.vars, steps, wantedEval(x, vars, steps))
			}
		}
	}
}

// A write into an answer turns no argument and no other answer, and one into
// an argument turns no answer.
func TestEvalKeepsNothing(t *testing.T) {
	for turn, x := range linesForOwnMemory(t) {
		for _, vars := range varsToTry() {
			for _, steps := range []int{60, turn % 5, -1} {
				g := guardLine(x, vars)
				want := wantedEval(x, copiedVars(vars), steps)
				first, second := evalOf(g.tree, g.vars, steps), evalOf(g.tree, g.vars, steps)
				g.check(t)
				for _, list := range listsOf(first) {
					scribble(list)
				}
				scribbleVars(first.vars)
				g.check(t)
				g.scribble()
				if !sameOutcome(second, want) {
					t.Errorf("%q: an answer shares memory with another one or with an argument: %v, %v", impl.TreeText(x), second, want)
				}
				wantEval(t, x, vars, steps, want)
			}
		}
	}
}

func TestVarsOkWritesIntoNothing(t *testing.T) {
	for _, vars := range append(varsToTry(), nil, someVars()[1:], setIn(someVars(), "B", scalar(top+1)), append(make([]impl.Var, 25), impl.Var{Value: vector(1)})) {
		g := guardLine(impl.Tree{}, vars)
		if impl.VarsOk(g.vars) != wantedVarsOk(vars) || impl.VarsOk(g.vars) != wantedVarsOk(vars) {
			t.Error("VarsOk is not", wantedVarsOk(vars), "of", vars)
		}
		g.check(t)
	}
}

// One list may stand in many places of what is handed in.
func TestEvalOfOneList(t *testing.T) {
	one, two := []int{1}, []int{2, 5}
	shared := impl.Array{Shape: one, Data: one}
	pair := impl.Array{Shape: two[:1], Data: two}
	vars := varsWith("ABCD", shared, shared, pair, impl.Array{Shape: one[:0], Data: one})
	num := impl.Expr{Kind: impl.ExNum, Nums: two}
	for _, c := range []struct {
		tree impl.Tree
		want impl.Array
		then []impl.Var
	}{
		{treeOf(nameNode('A'), setNode('B', 0)), vector(1), vars},
		{treeOf(num, setNode('A', 0), nameNode('C'), twoNode(plainFun(','), 2, 1)), vector(2, 5, 2, 5), setIn(vars, "A", vector(2, 5))},
		{treeOf(num, num, twoNode(plainFun('#'), 1, 0), setNode('E', 2)), repeated([]int{2, 5}, two, 0), setIn(vars, "E", repeated([]int{2, 5}, two, 0))},
		{treeOf(nameNode('D'), setNode('C', 0)), scalar(1), setIn(vars, "C", scalar(1))},
	} {
		wantEval(t, c.tree, vars, 9, outcome{c.want, c.then, impl.ErNone, 9 - len(c.tree.Nodes)})
		wantOwnLists(t, c.tree, vars, 9)
	}
	if !slices.Equal(one, []int{1}) || !slices.Equal(two, []int{2, 5}) {
		t.Error("written into:", one, two)
	}
	same := slices.Repeat([]impl.Var{{Set: true, Value: pair}}, 26)
	wantOwnLists(t, treeOf(nameNode('Z')), same, 1)
	wantOwnLists(t, treeOf(nameNode('Y')), same, 0)
}
