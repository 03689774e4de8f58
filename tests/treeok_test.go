package tests

import (
	"math"
	"slices"
	"strings"
	"testing"

	"loop.example/g00182/impl"
)

// ownNodes counts off the own nodes of a node of which all those ahead take
// nothing that stands behind them.
func ownNodes(nodes []impl.Expr, i int) []int {
	list := []int{i}
	switch nodes[i].Kind {
	case impl.ExSet, impl.ExOne:
		list = append(list, ownNodes(nodes, nodes[i].B)...)
	case impl.ExTwo:
		list = append(append(list, ownNodes(nodes, nodes[i].A)...), ownNodes(nodes, nodes[i].B)...)
	}
	return list
}

func wantedNode(nodes []impl.Expr, i int) bool {
	x := nodes[i]
	letter := x.A >= 0 && x.A <= 25
	noFun, noNums := x.F == impl.Fun{}, len(x.Nums) == 0
	switch x.Kind {
	case impl.ExNum:
		wrong := slices.ContainsFunc(x.Nums, func(n int) bool { return n < -top || n > top })
		return x.A == 0 && x.B == 0 && noFun && !noNums && len(x.Nums) <= 300 && !wrong
	case impl.ExName:
		return letter && x.B == 0 && noFun && noNums
	case impl.ExSet:
		return letter && i > 0 && x.B == i-1 && noFun && noNums
	case impl.ExOne:
		return x.A == 0 && i > 0 && x.B == i-1 && wantedFunOne(x.F) && noNums
	case impl.ExTwo:
		return i > 0 && x.A == i-1 && x.B >= 0 && x.B == slices.Min(ownNodes(nodes, i-1))-1 && wantedFunTwo(x.F) && noNums
	}
	return false
}

// wantedTreeOk looks at the nodes from the first one on, by the words of the
// document.
func wantedTreeOk(x impl.Tree) bool {
	if len(x.Nodes) < 1 || len(x.Nodes) > 60 {
		return false
	}
	for i := range x.Nodes {
		if !wantedNode(x.Nodes, i) {
			return false
		}
	}
	own := ownNodes(x.Nodes, len(x.Nodes)-1)
	slices.Sort(own)
	return len(slices.Compact(own)) == len(x.Nodes)
}

// wantTreeOkAsModel sees that a tree that is none has no text, either.
func wantTreeOkAsModel(t *testing.T, x impl.Tree) bool {
	t.Helper()
	want := wantedTreeOk(x)
	if impl.TreeOk(x) != want {
		t.Errorf("TreeOk(%v) = %t", x, !want)
	}
	if text := impl.TreeText(x); !want && text != "" {
		t.Errorf("TreeText(%v) = %q", x, text)
	}
	return want
}

func wantTreeOk(t *testing.T, want bool, nodes ...impl.Expr) {
	t.Helper()
	if x := treeOf(nodes...); wantTreeOkAsModel(t, x) != want {
		t.Errorf("TreeOk(%v) is not %t", x, want)
	}
}

func TestTreeOkOrdinary(t *testing.T) {
	plus := plainFun('+')
	wantTreeOk(t, true, numNode(1))
	wantTreeOk(t, true, numNode(1, 2, 3))
	wantTreeOk(t, true, nameNode('A'))
	wantTreeOk(t, true, nameNode('Z'))
	wantTreeOk(t, true, numNode(1), setNode('A', 0))
	wantTreeOk(t, true, numNode(1), setNode('Z', 0))
	wantTreeOk(t, true, numNode(1), oneNode(plus, 0))
	wantTreeOk(t, true, numNode(1), numNode(2), twoNode(plus, 1, 0))
	wantTreeOk(t, true, numNode(1), oneNode(plus, 0), numNode(2), oneNode(plus, 2), twoNode(plus, 3, 1))
	wantTreeOk(t, true, numNode(1), numNode(2), numNode(3), twoNode(plus, 2, 1), twoNode(plus, 3, 0))
	wantTreeOk(t, true, numNode(1), numNode(2), twoNode(plus, 1, 0), numNode(3), twoNode(plus, 3, 2))
	empty := nameNode('A')
	empty.Nums = []int{}
	wantTreeOk(t, true, empty)
}

func TestTreeOkWhatIsTaken(t *testing.T) {
	plus := plainFun('+')
	wantTreeOk(t, false, setNode('A', 0))
	wantTreeOk(t, false, setNode('A', -1))
	wantTreeOk(t, false, oneNode(plus, 0))
	wantTreeOk(t, false, oneNode(plus, -1))
	wantTreeOk(t, false, twoNode(plus, 0, 0))
	wantTreeOk(t, false, twoNode(plus, -1, -1))
	wantTreeOk(t, false, twoNode(plus, -1, -2))
	wantTreeOk(t, false, numNode(1), twoNode(plus, 0, 0))
	wantTreeOk(t, false, numNode(1), twoNode(plus, 0, -1))
	wantTreeOk(t, false, numNode(1), oneNode(plus, 1))
	wantTreeOk(t, false, numNode(1), numNode(2), twoNode(plus, 0, 1))
	wantTreeOk(t, false, numNode(1), numNode(2), twoNode(plus, 1, 1))
	wantTreeOk(t, false, numNode(1), numNode(2), twoNode(plus, 0, 0))
	wantTreeOk(t, false, numNode(1), numNode(2), twoNode(plus, 1, 2))
	// One that none takes, at the beginning, between, and behind.
	wantTreeOk(t, false, numNode(1), numNode(2))
	wantTreeOk(t, false, numNode(1), numNode(2), oneNode(plus, 1))
	wantTreeOk(t, false, numNode(1), numNode(2), oneNode(plus, 0))
	wantTreeOk(t, false, numNode(1), numNode(2), numNode(3), twoNode(plus, 2, 1))
	wantTreeOk(t, false, numNode(1), numNode(2), numNode(3), twoNode(plus, 2, 0))
	wantTreeOk(t, false, numNode(1), oneNode(plus, 0), numNode(2))
	// One that is taken twice.
	wantTreeOk(t, false, numNode(1), oneNode(plus, 0), oneNode(plus, 0))
	wantTreeOk(t, false, numNode(1), oneNode(plus, 0), twoNode(plus, 1, 0))
	wantTreeOk(t, false, numNode(1), numNode(2), twoNode(plus, 1, 0), twoNode(plus, 2, 1))
	wantTreeOk(t, false, numNode(1), numNode(2), twoNode(plus, 1, 0), twoNode(plus, 2, 0))
}

// everyNodes calls each with all lists of that many nodes of what choice has
// for a place.
func everyNodes(choice []impl.Expr, long int, each func(nodes []impl.Expr)) {
	numbers := make([]int, len(choice))
	for i := range choice {
		numbers[i] = i
	}
	nodes := make([]impl.Expr, long)
	everyList(numbers, long, func(some []int) {
		for i, x := range some {
			nodes[i] = choice[x]
		}
		each(nodes)
	})
}

// All small trees: which nodes they take is told in every way, and just as
// many are right as there are ways to grow them (with fewer kinds, of four).
func TestTreeOkEverySmallOne(t *testing.T) {
	plus := plainFun('+')
	for long, want := range []int{0, 2, 4, 12, 4} {
		choice := []impl.Expr{numNode(1)}
		if long < 4 {
			choice = append(choice, nameNode('A'), setNode('B', -1))
		}
		for b := range max(long, 1) {
			choice = append(choice, oneNode(plus, b))
			if long < 4 {
				choice = append(choice, setNode('B', b))
			}
			for a := range max(long, 1) {
				choice = append(choice, twoNode(plus, a, b))
			}
		}
		count := 0
		everyNodes(choice, long, func(nodes []impl.Expr) {
			if wantTreeOkAsModel(t, impl.Tree{Nodes: nodes}) {
				count++
			}
		})
		if count != want {
			t.Error("of", long, "nodes so many are right:", count)
		}
	}
}

// wrongPlaces has the numbers around those of nodes, and far ones.
func wrongPlaces(long int) []int {
	list := []int{25, 26, math.MinInt, math.MaxInt, 1 << 32, -1 << 32, top}
	for i := -3; i <= long+2; i++ {
		list = append(list, i, i+1<<32)
	}
	return list
}

// spoiledNodes has one node with one thing changed, in every way.
func spoiledNodes(x impl.Expr, long int) []impl.Expr {
	var list []impl.Expr
	for kind := -1; kind <= 7; kind++ {
		y := x
		y.Kind = kind
		list = append(list, y)
	}
	for _, kind := range []int{1<<8 + x.Kind, 1<<32 + x.Kind, -x.Kind, math.MinInt, math.MaxInt} {
		y := x
		y.Kind = kind
		list = append(list, y)
	}
	for _, place := range wrongPlaces(long) {
		y, z := x, x
		y.A, z.B = place, place
		list = append(list, y, z)
	}
	for _, f := range []impl.Fun{{}, plainFun('+'), plainFun('~'), plainFun('%'), plainFun('i'), plainFun('t'), plainFun('r'), plainFun('/'), operFun('+', '/'), operFun('~', '/'),
		operFun('+', 'o'), operFun('i', 'o'), innerFun('+', '*'), innerFun('+', 'i'), innerFun('~', '*'), {Sign: '+', With: '*'}, {Oper: '/'}, {With: '+'}, {Sign: '+', Oper: '.'}, {Sign: '+' + 1<<8}, {Sign: -1}} {
		y := x
		y.F = f
		list = append(list, y)
	}
	for _, nums := range [][]int{nil, {}, {0}, {1, 2}, {top}, {-top}, {top + 1}, {-top - 1}, {1, 2, math.MinInt}, {math.MaxInt, 1}, slices.Repeat([]int{5}, 300), slices.Repeat([]int{5}, 301)} {
		y := x
		y.Nums = nums
		list = append(list, y)
	}
	return list
}

// Each node of each tree is spoiled in every way; and a node is left out, put
// in twice, or changed with another one.
func TestTreeOkSpoiled(t *testing.T) {
	right, wrong := 0, 0
	look := func(nodes []impl.Expr) {
		if wantTreeOkAsModel(t, impl.Tree{Nodes: nodes}) {
			right++
		} else {
			wrong++
		}
	}
	for _, x := range grownTrees(36) {
		for i := range x.nodes {
			for _, y := range spoiledNodes(x.nodes[i], len(x.nodes)) {
				nodes := slices.Clone(x.nodes)
				nodes[i] = y
				look(nodes)
			}
			look(slices.Delete(slices.Clone(x.nodes), i, i+1))
			look(slices.Insert(slices.Clone(x.nodes), i, x.nodes[i]))
			for j := range i {
				nodes := slices.Clone(x.nodes)
				nodes[i], nodes[j] = nodes[j], nodes[i]
				look(nodes)
			}
			look(x.nodes[:i])
			look(x.nodes[i:])
		}
	}
	if right < 100 || wrong < 1000 {
		t.Error("the test itself hardly asks for both:", right, wrong)
	}
}

// What a kind does not name is zero.
func TestTreeOkMoreThanIsNamed(t *testing.T) {
	trees := []impl.Tree{treeOf(numNode(1)), treeOf(nameNode('C')), treeOf(numNode(1), setNode('C', 0)), treeOf(numNode(1), oneNode(plainFun('-'), 0)),
		treeOf(numNode(1), numNode(2), twoNode(plainFun('-'), 1, 0))}
	for _, x := range trees {
		wantTreeOk(t, true, x.Nodes...)
		last := len(x.Nodes) - 1
		spoil := func(change func(node *impl.Expr)) {
			y := copiedTree(x)
			change(&y.Nodes[last])
			wantTreeOk(t, false, y.Nodes...)
		}
		kind := x.Nodes[last].Kind
		if kind == impl.ExNum || kind == impl.ExOne {
			spoil(func(node *impl.Expr) { node.A = 1 })
			spoil(func(node *impl.Expr) { node.A = -1 })
		}
		if kind == impl.ExNum || kind == impl.ExName {
			spoil(func(node *impl.Expr) { node.B = 1 })
			spoil(func(node *impl.Expr) { node.B = -1 })
		}
		if kind != impl.ExOne && kind != impl.ExTwo {
			spoil(func(node *impl.Expr) { node.F.Sign = '+' })
			spoil(func(node *impl.Expr) { node.F.Oper = '/' })
			spoil(func(node *impl.Expr) { node.F.With = '+' })
		}
		if kind != impl.ExNum {
			spoil(func(node *impl.Expr) { node.Nums = []int{0} })
		}
		spoil(func(node *impl.Expr) { node.Kind = 0 })
		spoil(func(node *impl.Expr) { node.Kind = 6 })
	}
}

func TestTreeOkLetters(t *testing.T) {
	for letter := -30; letter <= 60; letter++ {
		is := letter >= 0 && letter <= 25
		wantTreeOk(t, is, impl.Expr{Kind: impl.ExName, A: letter})
		wantTreeOk(t, is, numNode(1), impl.Expr{Kind: impl.ExSet, A: letter})
	}
	for _, letter := range []int{'A', 'Z', 1 << 8, 1 << 32, -1 << 32, 1<<32 + 1, math.MinInt, math.MaxInt} {
		wantTreeOk(t, false, impl.Expr{Kind: impl.ExName, A: letter})
		wantTreeOk(t, false, numNode(1), impl.Expr{Kind: impl.ExSet, A: letter})
	}
}

func TestTreeOkFunctions(t *testing.T) {
	for _, f := range everyFun() {
		wantTreeOk(t, wantedFunOne(f), numNode(1), oneNode(f, 0))
		wantTreeOk(t, wantedFunTwo(f), numNode(1), numNode(2), twoNode(f, 1, 0))
	}
}

func TestTreeOkNums(t *testing.T) {
	for _, long := range []int{1, 2, 299, 300, 301, 302, 5000} {
		wantTreeOk(t, long <= 300, numNode(slices.Repeat([]int{-3}, long)...))
		wantTreeOk(t, long <= 300, numNode(1), numNode(slices.Repeat([]int{top}, long)...), twoNode(plainFun('+'), 1, 0))
	}
	wantTreeOk(t, false, numNode())
	wantTreeOk(t, false, numNode(1), numNode(), twoNode(plainFun('+'), 1, 0))
	for _, x := range rightNumbers() {
		wantTreeOk(t, true, numNode(x))
	}
	for _, x := range wrongNumbers() {
		wantTreeOk(t, false, numNode(x))
		for _, at := range []int{0, 1, 150, 299} {
			nums := make([]int, 300)
			nums[at] = x
			wantTreeOk(t, false, numNode(nums...))
		}
	}
}

func TestTreeOkHowManyNodes(t *testing.T) {
	wantTreeOk(t, false)
	if impl.TreeOk(impl.Tree{Nodes: []impl.Expr{}}) || impl.TreeText(impl.Tree{}) != "" {
		t.Error("a tree of no nodes is right, or has a text")
	}
	nodes := []impl.Expr{numNode(1)}
	for i := range 100 {
		wantTreeOk(t, len(nodes) <= 60, nodes...)
		nodes = append(nodes, oneNode(plainFun('-'), i))
	}
	nodes = []impl.Expr{numNode(1)}
	for i := 0; i < 100; i += 2 {
		wantTreeOk(t, len(nodes) <= 60, nodes...)
		nodes = append(nodes, nameNode('A'), twoNode(plainFun('-'), i+1, i))
	}
	wantTreeOk(t, false, slices.Repeat([]impl.Expr{numNode(1)}, 100000)...)
}

// Every tree that is read is right, and has in each node just what is named.
func TestParsedTreesAreRight(t *testing.T) {
	for _, x := range grownTrees(500) {
		tree, _ := impl.Parse(x.loose)
		wantTreeOk(t, true, tree.Nodes...)
	}
	for _, f := range everyFun() {
		for _, text := range []string{funWords(f) + " A : 1 2", "( Z : 3 ) " + funWords(f) + " B"} {
			if tree, code := impl.Parse(wordTokens(t, text)); code == impl.ErNone {
				wantTreeOk(t, true, tree.Nodes...)
			}
		}
	}
}

func wantTreeText(t *testing.T, want string, nodes ...impl.Expr) {
	t.Helper()
	if text := impl.TreeText(treeOf(nodes...)); text != want {
		t.Errorf("TreeText(%v) = %q; want %q", nodes, text, want)
	}
}

func TestTreeTextEachKind(t *testing.T) {
	minus := plainFun('-')
	wantTreeText(t, "7", numNode(7))
	wantTreeText(t, "_7 0 1000000000000", numNode(-7, 0, top))
	wantTreeText(t, "Q", nameNode('Q'))
	wantTreeText(t, "Q : 7", numNode(7), setNode('Q', 0))
	wantTreeText(t, "- 7", numNode(7), oneNode(minus, 0))
	wantTreeText(t, "8 - 7", numNode(7), numNode(8), twoNode(minus, 1, 0))
	wantTreeText(t, "A : B : - - 7", numNode(7), oneNode(minus, 0), oneNode(minus, 1), setNode('B', 2), setNode('A', 3))
	for _, f := range everyFun() {
		if wantedFunOne(f) {
			wantTreeText(t, funWords(f)+" A", nameNode('A'), oneNode(f, 0))
		}
		if wantedFunTwo(f) {
			wantTreeText(t, "1 2 "+funWords(f)+" A", nameNode('A'), numNode(1, 2), twoNode(f, 1, 0))
		}
	}
}

// What is on the left stands in brackets unless it is numbers or a letter;
// what is on the right never does.
func TestTreeTextBrackets(t *testing.T) {
	minus := plainFun('-')
	wantTreeText(t, "1 - A", nameNode('A'), numNode(1), twoNode(minus, 1, 0))
	wantTreeText(t, "1 2 - A", nameNode('A'), numNode(1, 2), twoNode(minus, 1, 0))
	wantTreeText(t, "B - A", nameNode('A'), nameNode('B'), twoNode(minus, 1, 0))
	wantTreeText(t, "( B : 1 ) - A", nameNode('A'), numNode(1), setNode('B', 1), twoNode(minus, 2, 0))
	wantTreeText(t, "( - 1 ) - A", nameNode('A'), numNode(1), oneNode(minus, 1), twoNode(minus, 2, 0))
	wantTreeText(t, "( B - 1 ) - A", nameNode('A'), numNode(1), nameNode('B'), twoNode(minus, 2, 1), twoNode(minus, 3, 0))
	wantTreeText(t, "( ( C - B ) - 1 ) - A", nameNode('A'), numNode(1), nameNode('B'), nameNode('C'), twoNode(minus, 3, 2), twoNode(minus, 4, 1), twoNode(minus, 5, 0))
	wantTreeText(t, "C - B : 1", numNode(1), setNode('B', 0), nameNode('C'), twoNode(minus, 2, 1))
	wantTreeText(t, "C - - 1", numNode(1), oneNode(minus, 0), nameNode('C'), twoNode(minus, 2, 1))
	wantTreeText(t, "C - B - 1", numNode(1), nameNode('B'), twoNode(minus, 1, 0), nameNode('C'), twoNode(minus, 3, 2))
	wantTreeText(t, "( - 2 ) - - 1", numNode(1), oneNode(minus, 0), numNode(2), oneNode(minus, 2), twoNode(minus, 3, 1))
	wantTreeText(t, "- B - 1", numNode(1), nameNode('B'), twoNode(minus, 1, 0), oneNode(minus, 2))
	wantTreeText(t, "C : B - 1", numNode(1), nameNode('B'), twoNode(minus, 1, 0), setNode('C', 2))
}

// Needless brackets are gone, and those that are needed stay.
func TestTreeTextOfLines(t *testing.T) {
	for _, c := range [][2]string{{"( 1 )", "1"}, {"( ( A ) )", "A"}, {"( 1 2 ) + ( 3 )", "1 2 + 3"}, {"( 1 + 2 ) + 3", "( 1 + 2 ) + 3"}, {"1 + ( 2 + 3 )", "1 + 2 + 3"},
		{"( A : ( 1 ) )", "A : 1"}, {"( ( - 1 ) ) o * ( - ( 2 ) )", "( - 1 ) o * - 2"}, {"A : ( 1 - 2 ) * + / 3 4", "A : ( 1 - 2 ) * + / 3 4"}, {"- ( - ( - 1 ) )", "- - - 1"},
		{"( A ) + . * ( B )", "A + . * B"}, {"007 + _0", "7 + 0"}, {"( ( A : 1 ) ) + B : ( 2 )", "( A : 1 ) + B : 2"}} {
		tree, _ := impl.Parse(wordTokens(t, c[0]))
		wantTreeText(t, c[1], tree.Nodes...)
	}
}

// A line of MaxLine tokens is written, however many bytes it has; one of more
// is not, though its tree is right.
func TestTreeTextLength(t *testing.T) {
	minus := plainFun('-')
	words := func(long int) string { return strings.TrimSuffix(strings.Repeat("_1000000000000 ", long), " ") }
	nums := func(long int) impl.Expr { return numNode(slices.Repeat([]int{-top}, long)...) }
	for _, long := range []int{1, 100, 290, 291, 292, 293, 294, 295, 296, 297, 298, 299, 300} {
		for _, c := range []struct {
			more  int
			ahead string
			nodes []impl.Expr
		}{
			{0, "", []impl.Expr{nums(long)}},
			{1, "- ", []impl.Expr{nums(long), oneNode(minus, 0)}},
			{2, "Z : ", []impl.Expr{nums(long), setNode('Z', 0)}},
			{2, "+ \\ ", []impl.Expr{nums(long), oneNode(operFun('+', '\\'), 0)}},
			{2, "A - ", []impl.Expr{nums(long), nameNode('A'), twoNode(minus, 1, 0)}},
			{3, "A o - ", []impl.Expr{nums(long), nameNode('A'), twoNode(operFun('-', 'o'), 1, 0)}},
			{4, "A + . - ", []impl.Expr{nums(long), nameNode('A'), twoNode(innerFun('+', '-'), 1, 0)}},
			{5, "( - A ) - ", []impl.Expr{nums(long), nameNode('A'), oneNode(minus, 1), twoNode(minus, 2, 0)}},
			{7, "( A : 5 ) o - ", []impl.Expr{nums(long), numNode(5), setNode('A', 1), twoNode(operFun('-', 'o'), 2, 0)}},
		} {
			wantTreeOk(t, true, c.nodes...)
			if long+c.more <= 300 {
				wantTreeText(t, c.ahead+words(long), c.nodes...)
			} else {
				wantTreeText(t, "", c.nodes...)
			}
		}
	}
	wantTreeText(t, words(150)+" - "+words(149), nums(149), nums(150), twoNode(minus, 1, 0))
	wantTreeText(t, "", nums(150), nums(150), twoNode(minus, 1, 0))
	wantTreeText(t, "", nums(300), nums(300), twoNode(minus, 1, 0))
}

// A tree of MaxNodes nodes that each have all the numbers they may have is
// right, but has no text.
func TestTreeTextOfTheGreatest(t *testing.T) {
	all := numNode(slices.Repeat([]int{top}, 300)...)
	nodes := []impl.Expr{all}
	for i := 0; i < 58; i += 2 {
		nodes = append(nodes, all, twoNode(plainFun('+'), i+1, i))
	}
	nodes = append(nodes, oneNode(plainFun('-'), 58))
	wantTreeOk(t, true, nodes...)
	wantTreeText(t, "", nodes...)
	for _, line := range linesOfNodes(60) {
		tree, _ := impl.Parse(wordTokens(t, line))
		again, code := impl.Parse(wordTokens(t, impl.TreeText(tree)))
		if len(tree.Nodes) != 60 || code != impl.ErNone || !sameTree(again, tree) {
			t.Error("not read as it was:", line, code)
		}
	}
}

// scribbleNodes writes over a list and all the room behind it, but leaves what
// its Nums were to be looked at.
func scribbleNodes(nodes []impl.Expr) {
	all := nodes[:cap(nodes)]
	for i := range all {
		all[i] = impl.Expr{Kind: 91, A: 92, B: 93, F: impl.Fun{Sign: 94, Oper: 95, With: 96}, Nums: []int{97}}
	}
	_ = append(nodes, impl.Expr{Kind: 98})
}

// linesForMemory has several lists of numbers in one line.
func linesForMemory(t *testing.T) [][]impl.Token {
	t.Helper()
	var lists [][]impl.Token
	for _, text := range []string{"1", "A", "1 2 3", "1 2 3 + 4 5 6", "( 1 2 - 3 ) * A : 4 5 6 7 8", "1 + 2 + 3 + 4 + 5", "( 7 7 ) o + ( 8 8 8 ) , i 9", "", "1 +", "( 1 2", strings.Repeat("- ", 70) + "1"} {
		lists = append(lists, wordTokens(t, text))
	}
	for _, x := range grownTrees(120) {
		lists = append(lists, x.loose)
	}
	return append(lists, wrongTokens(), slices.Repeat([]impl.Token{numToken(1)}, 300), slices.Repeat([]impl.Token{numToken(1)}, 301))
}

// A write into the numbers of one node, or behind them, turns no other node.
func wantOwnNums(t *testing.T, list []impl.Token, was impl.Tree) {
	t.Helper()
	for i, node := range was.Nodes {
		tree, _ := impl.Parse(list)
		scribble(tree.Nodes[i].Nums)
		tree.Nodes[i].Nums = node.Nums
		if !sameTree(tree, was) {
			t.Errorf("a write into the numbers of node %d turns another one: %v, %v", i, tree, was)
		}
	}
}

// A write into the nodes, or behind them, turns neither the numbers that they
// had, nor another answer.
func wantOwnNodes(t *testing.T, list []impl.Token, was impl.Tree) {
	t.Helper()
	first, _ := impl.Parse(list)
	second, _ := impl.Parse(list)
	nodes := slices.Clone(first.Nodes)
	scribbleNodes(first.Nodes)
	if !sameTree(impl.Tree{Nodes: nodes}, was) || !sameTree(second, was) {
		t.Error("a write into the nodes turns their numbers, or another answer:", nodes, second, was)
	}
}

func TestParseIsNewMemory(t *testing.T) {
	for _, list := range linesForMemory(t) {
		tree, code := impl.Parse(list)
		was := copiedTree(tree)
		wantOwnNums(t, list, was)
		wantOwnNodes(t, list, was)
		wantParse(t, list, was, code)
	}
}

func TestParseWritesIntoNothing(t *testing.T) {
	for _, list := range linesForMemory(t) {
		all := append(slices.Clone(list), numToken(71), closing, numToken(top+7), signToken('+'))
		part, was := all[:len(list)], slices.Clone(all)
		tree, code := impl.Parse(part)
		kept := copiedTree(tree)
		if !slices.Equal(all, was) {
			t.Error("written into:", was, all)
		}
		scribbleTokens(all)
		if !sameTree(tree, kept) {
			t.Error("a write into the tokens turns their tree:", tree, kept)
		}
		scribbleNodes(tree.Nodes)
		wantParse(t, list, kept, code)
	}
}

// spareTree has a tree with spare room behind each of its lists, and that
// room as a whole, as a tree.
func spareTree(x impl.Tree) (part impl.Tree, all impl.Tree) {
	all = copiedTree(x)
	all.Nodes = append(all.Nodes, numNode(81, 82), oneNode(plainFun('-'), 83))
	part.Nodes = all.Nodes[:len(x.Nodes)]
	for i := range part.Nodes {
		part.Nodes[i].Nums, _ = withSpare(part.Nodes[i].Nums)
	}
	return part, all
}

// withRoom is a copy of all of a tree with the room behind its lists in it.
func withRoom(all impl.Tree) impl.Tree {
	x := impl.Tree{Nodes: slices.Clone(all.Nodes)}
	for i, node := range x.Nodes {
		x.Nodes[i].Nums = slices.Clone(node.Nums[:cap(node.Nums)])
	}
	return x
}

func TestTreesWriteIntoNothing(t *testing.T) {
	trees := []impl.Tree{{}, treeOf(numNode()), treeOf(numNode(1), numNode(2)), treeOf(numNode(top + 1)), treeOf(numNode(slices.Repeat([]int{1}, 300)...), oneNode(plainFun('-'), 0))}
	for _, x := range grownTrees(200) {
		trees = append(trees, treeOf(x.nodes...))
	}
	for _, x := range trees {
		part, all := spareTree(x)
		was := withRoom(all)
		ok, text := impl.TreeOk(part), impl.TreeText(part)
		kept := strings.Clone(text)
		if !sameTree(withRoom(all), was) {
			t.Error("written into:", was, all)
		}
		if impl.TreeOk(part) != ok || impl.TreeText(part) != text || ok != wantedTreeOk(x) {
			t.Error("something is kept:", x)
		}
		for _, node := range part.Nodes {
			scribble(node.Nums)
		}
		scribbleNodes(part.Nodes)
		if text != kept {
			t.Errorf("a write into the tree turns its text: %q, %q", text, kept)
		}
	}
}
