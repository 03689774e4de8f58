package tests

import (
	"slices"
	"strings"
	"testing"

	"loop.example/g00182/impl"
)

// wantedCode is of the nodes of a right tree.
func wantedCode(nodes []impl.Expr) []impl.Instr {
	var code []impl.Instr
	for _, x := range nodes {
		code = append(code, map[int]impl.Instr{
			impl.ExNum:  {Op: 1, Nums: slices.Clone(x.Nums)},
			impl.ExName: {Op: 2, A: x.A},
			impl.ExSet:  {Op: 3, A: x.A},
			impl.ExOne:  {Op: 4, F: x.F},
			impl.ExTwo:  {Op: 5, F: x.F},
		}[x.Kind])
	}
	return code
}

// treeAgain is the tree of which code is the code.
func treeAgain(code []impl.Instr) impl.Tree {
	var x impl.Tree
	for i, in := range code {
		node := impl.Expr{Kind: in.Op, A: in.A, F: in.F, Nums: in.Nums}
		switch in.Op {
		case impl.OpSet, impl.OpOne:
			node.B = i - 1
		case impl.OpTwo:
			node.A, node.B = i-1, firstOwn(code, i-1)-1
		}
		x.Nodes = append(x.Nodes, node)
	}
	return x
}

func wantCompiled(t *testing.T, x impl.Tree, want ...impl.Instr) {
	t.Helper()
	if code, ok := impl.Compile(x); !ok || !sameCode(code, want) {
		t.Errorf("Compile(%v) = %v, %t; want %v", x, code, ok, want)
	}
}

func wantNotCompiled(t *testing.T, nodes ...impl.Expr) {
	t.Helper()
	if code, ok := impl.Compile(impl.Tree{Nodes: nodes}); ok || len(code) > 0 {
		t.Errorf("Compile(%v) = %v, %t", nodes, code, ok)
	}
}

// wantCompiledAsModel asks for code of every tree that is right, and of no
// other one.
func wantCompiledAsModel(t *testing.T, x impl.Tree) bool {
	t.Helper()
	if !wantedTreeOk(x) {
		wantNotCompiled(t, x.Nodes...)
		return false
	}
	code, _ := impl.Compile(x)
	wantCompiled(t, x, wantedCode(x.Nodes)...)
	wantCodeOk(t, true, code...)
	if !sameTree(treeAgain(code), x) {
		t.Errorf("the code of %v tells another tree: %v", x, treeAgain(code))
	}
	return true
}

func TestCompileEachKind(t *testing.T) {
	minus := plainFun('-')
	wantCompiled(t, treeOf(numNode(7)), numInstr(7))
	wantCompiled(t, treeOf(numNode(7, -8, 0)), numInstr(7, -8, 0))
	wantCompiled(t, treeOf(nameNode('A')), loadInstr('A'))
	wantCompiled(t, treeOf(nameNode('Z')), loadInstr('Z'))
	wantCompiled(t, treeOf(numNode(7), setNode('A', 0)), numInstr(7), setInstr('A'))
	wantCompiled(t, treeOf(numNode(7), setNode('Z', 0)), numInstr(7), setInstr('Z'))
	wantCompiled(t, treeOf(numNode(7), oneNode(minus, 0)), numInstr(7), oneInstr(minus))
	wantCompiled(t, treeOf(numNode(7), numNode(8), twoNode(minus, 1, 0)), numInstr(7), numInstr(8), twoInstr(minus))
	wantCompiled(t, treeOf(numNode(7), setNode('B', 0), setNode('C', 1), oneNode(minus, 2)), numInstr(7), setInstr('B'), setInstr('C'), oneInstr(minus))
}

// What is on the right comes first, then what is on the left, then what takes
// them; neither A nor B of the nodes goes over into it.
func TestCompileLines(t *testing.T) {
	wantCompiled(t, lineTree(t, "A : 2 - i 3"), numInstr(3), oneInstr(plainFun('i')), numInstr(2), twoInstr(plainFun('-')), setInstr('A'))
	wantCompiled(t, lineTree(t, "( 1 - 2 ) * 3 + ( 4 & B ) ^ 6 7"),
		numInstr(6, 7), loadInstr('B'), numInstr(4), twoInstr(plainFun('&')), twoInstr(plainFun('^')), numInstr(3), twoInstr(plainFun('+')),
		numInstr(2), numInstr(1), twoInstr(plainFun('-')), twoInstr(plainFun('*')))
	wantCompiled(t, lineTree(t, "( A : 1 ) + ( Z : 2 ) + . * C : + / 3 4"),
		numInstr(3, 4), oneInstr(operFun('+', '/')), setInstr('C'), numInstr(2), setInstr('Z'), twoInstr(innerFun('+', '*')), numInstr(1), setInstr('A'), twoInstr(plainFun('+')))
	wantCompiled(t, lineTree(t, "( ( A o + B ) - C ) , - \\ D"),
		loadInstr('D'), oneInstr(operFun('-', '\\')), loadInstr('C'), loadInstr('B'), loadInstr('A'), twoInstr(operFun('+', 'o')), twoInstr(plainFun('-')), twoInstr(plainFun(',')))
	// The same nodes in another order are another line, and other code.
	wantCompiled(t, lineTree(t, "3 - 2 - 1"), numInstr(1), numInstr(2), twoInstr(plainFun('-')), numInstr(3), twoInstr(plainFun('-')))
	wantCompiled(t, lineTree(t, "( 3 - 2 ) - 1"), numInstr(1), numInstr(2), numInstr(3), twoInstr(plainFun('-')), twoInstr(plainFun('-')))
}

func TestCompileEveryFunction(t *testing.T) {
	for _, f := range noFuns() {
		if wantedFunOne(f) {
			wantCompiled(t, treeOf(nameNode('Q'), oneNode(f, 0)), loadInstr('Q'), oneInstr(f))
		} else {
			wantNotCompiled(t, nameNode('Q'), oneNode(f, 0))
		}
		if wantedFunTwo(f) {
			wantCompiled(t, treeOf(nameNode('Q'), nameNode('R'), twoNode(f, 1, 0)), loadInstr('Q'), loadInstr('R'), twoInstr(f))
		} else {
			wantNotCompiled(t, nameNode('Q'), nameNode('R'), twoNode(f, 1, 0))
		}
	}
}

func TestCompileAtTheLimits(t *testing.T) {
	for _, long := range []int{1, 2, 255, 256, 299, 300} {
		wantCompiled(t, treeOf(numNode(numbered(long)...)), numInstr(numbered(long)...))
	}
	wantNotCompiled(t, numNode(numbered(301)...))
	wantNotCompiled(t, numNode())
	for _, x := range rightNumbers() {
		wantCompiled(t, treeOf(numNode(x, 1)), numInstr(x, 1))
	}
	for _, x := range wrongNumbers() {
		wantNotCompiled(t, numNode(x))
		wantNotCompiled(t, numNode(1, x))
	}
	for _, letter := range []int{-1, 26, 1 << 8, 1 << 32} {
		wantNotCompiled(t, impl.Expr{Kind: impl.ExName, A: letter})
		wantNotCompiled(t, numNode(1), impl.Expr{Kind: impl.ExSet, A: letter})
	}
	for count := 1; count <= 60; count++ {
		for _, line := range linesOfNodes(count) {
			if x := lineTree(t, line); !wantCompiledAsModel(t, x) || len(x.Nodes) != count {
				t.Error("not compiled:", line)
			}
		}
	}
	x := lineTree(t, strings.Repeat("- ", 59)+"1")
	wantNotCompiled(t, append(x.Nodes, oneNode(plainFun('-'), 59))...)
}

func TestCompileWhatIsNoTree(t *testing.T) {
	plus := plainFun('+')
	wantNotCompiled(t)
	wantNotCompiled(t, []impl.Expr{}...)
	wantNotCompiled(t, impl.Expr{})
	wantNotCompiled(t, numNode(1), numNode(2))
	wantNotCompiled(t, setNode('A', 0))
	wantNotCompiled(t, oneNode(plus, 0))
	wantNotCompiled(t, numNode(1), impl.Expr{Kind: 6})
	wantNotCompiled(t, numNode(1), impl.Expr{Kind: -1})
	// The code of each would be right, but the nodes say that they take others.
	wantNotCompiled(t, numNode(1), oneNode(plus, 1))
	wantNotCompiled(t, numNode(1), oneNode(plus, -1))
	wantNotCompiled(t, numNode(1), setNode('A', 1))
	wantNotCompiled(t, numNode(1), numNode(2), twoNode(plus, 0, 1))
	wantNotCompiled(t, numNode(1), numNode(2), twoNode(plus, 1, 1))
	wantNotCompiled(t, numNode(1), oneNode(plus, 0), oneNode(plus, 0))
	wantNotCompiled(t, slices.Repeat([]impl.Expr{numNode(1)}, 100000)...)
}

// All small trees, whichever nodes they say that they take.
func TestCompileEverySmallTree(t *testing.T) {
	plus := plainFun('+')
	for long, want := range []int{0, 2, 4, 12} {
		choice := []impl.Expr{numNode(1), nameNode('A')}
		for b := range max(long, 1) {
			choice = append(choice, oneNode(plus, b), setNode('B', b))
			for a := range max(long, 1) {
				choice = append(choice, twoNode(plus, a, b))
			}
		}
		count := 0
		everyNodes(choice, long, func(nodes []impl.Expr) {
			if wantCompiledAsModel(t, impl.Tree{Nodes: nodes}) {
				count++
			}
		})
		if count != want {
			t.Error("of", long, "nodes so many are compiled:", count)
		}
	}
}

func TestCompileSpoiledTrees(t *testing.T) {
	right, wrong := 0, 0
	for _, x := range grownTrees(18) {
		for i := range x.nodes {
			for _, y := range spoiledNodes(x.nodes[i], len(x.nodes)) {
				nodes := slices.Clone(x.nodes)
				nodes[i] = y
				if wantCompiledAsModel(t, impl.Tree{Nodes: nodes}) {
					right++
				} else {
					wrong++
				}
			}
		}
	}
	if right < 100 || wrong < 1000 {
		t.Error("the test itself hardly asks for both:", right, wrong)
	}
}

// Promise 11: what is compiled is right, and read from its bytes as it was.
func TestWhatIsCompiledIsRightAndReadAsItWas(t *testing.T) {
	ops, deepest := map[int]int{}, map[int]int{}
	for _, x := range append(treesOf(grownTrees(2000)), tamedTrees(500)...) {
		code, ok := impl.Compile(x)
		if !ok || !sameCode(code, wantedCode(x.Nodes)) || !impl.CodeOk(code) {
			t.Errorf("Compile(%v) = %v, %t", x, code, ok)
		}
		b, packed := impl.CodePack(code)
		again, read := impl.CodeRead(b)
		if !packed || !read || !sameCode(again, code) {
			t.Errorf("%v is packed as %v, and read as %v (%t, %t)", code, b, again, packed, read)
		}
		wantCompiledAsModel(t, x)
		for _, in := range code {
			ops[in.Op]++
		}
		deepest[impl.CodeDeep(code)]++
	}
	if len(ops) != 5 || slices.Min([]int{ops[1], ops[2], ops[3], ops[4], ops[5]}) < 1000 || len(deepest) < 8 {
		t.Error("the test itself hardly asks for all:", ops, deepest)
	}
}
