package tests

import (
	"bytes"
	"math"
	"slices"
	"testing"

	"loop.example/g00182/impl"
)

func numInstr(nums ...int) impl.Instr { return impl.Instr{Op: impl.OpNum, Nums: nums} }

func loadInstr(letter byte) impl.Instr { return impl.Instr{Op: impl.OpLoad, A: int(letter) - 65} }

func setInstr(letter byte) impl.Instr { return impl.Instr{Op: impl.OpSet, A: int(letter) - 65} }

func oneInstr(f impl.Fun) impl.Instr { return impl.Instr{Op: impl.OpOne, F: f} }

func twoInstr(f impl.Fun) impl.Instr { return impl.Instr{Op: impl.OpTwo, F: f} }

func codeOf(list ...impl.Instr) []impl.Instr { return list }

func sameInstr(a impl.Instr, b impl.Instr) bool {
	return a.Op == b.Op && a.A == b.A && a.F == b.F && slices.Equal(a.Nums, b.Nums)
}

func sameCode(a []impl.Instr, b []impl.Instr) bool { return slices.EqualFunc(a, b, sameInstr) }

func copiedCode(code []impl.Instr) []impl.Instr {
	list := slices.Clone(code)
	for i := range list {
		list[i].Nums = slices.Clone(list[i].Nums)
	}
	return list
}

func wantedInstr(x impl.Instr) bool {
	letter := x.A >= 0 && x.A <= 25
	noFun, noNums := x.F == impl.Fun{}, len(x.Nums) == 0
	switch x.Op {
	case impl.OpNum:
		wrong := slices.ContainsFunc(x.Nums, func(n int) bool { return n < -top || n > top })
		return x.A == 0 && noFun && !noNums && len(x.Nums) <= 300 && !wrong
	case impl.OpLoad, impl.OpSet:
		return letter && noFun && noNums
	case impl.OpOne:
		return x.A == 0 && wantedFunOne(x.F) && noNums
	case impl.OpTwo:
		return x.A == 0 && wantedFunTwo(x.F) && noNums
	}
	return false
}

// firstOwn goes back from an instruction to the first one of all that it rests
// on; it is -1 where something is missing.
func firstOwn(code []impl.Instr, i int) int {
	takes := map[int]int{impl.OpSet: 1, impl.OpOne: 1, impl.OpTwo: 2}
	for range takes[code[i].Op] {
		if i <= 0 {
			return -1
		}
		if i = firstOwn(code, i-1); i < 0 {
			return -1
		}
	}
	return i
}

// wantedCodeOk goes back from the last instruction, and counts no stack.
func wantedCodeOk(code []impl.Instr) bool {
	if len(code) < 1 || len(code) > 60 {
		return false
	}
	for _, x := range code {
		if !wantedInstr(x) {
			return false
		}
	}
	return firstOwn(code, len(code)-1) == 0
}

// deepAt is how many the stack needs for an instruction and what it rests on:
// while what is on the left is done, what is on the right lies below it.
func deepAt(code []impl.Instr, i int) int {
	switch code[i].Op {
	case impl.OpSet, impl.OpOne:
		return deepAt(code, i-1)
	case impl.OpTwo:
		return max(deepAt(code, firstOwn(code, i-1)-1), deepAt(code, i-1)+1)
	}
	return 1
}

func wantedDeep(code []impl.Instr) int {
	if !wantedCodeOk(code) {
		return 0
	}
	return deepAt(code, len(code)-1)
}

// wantCodeAsModel asks all functions of code, and for its bytes both ways.
func wantCodeAsModel(t *testing.T, code []impl.Instr) bool {
	t.Helper()
	want := wantedCodeOk(code)
	if impl.CodeOk(code) != want {
		t.Errorf("CodeOk(%v) = %t", code, !want)
	}
	if deep := impl.CodeDeep(code); deep != wantedDeep(code) {
		t.Errorf("CodeDeep(%v) = %d; want %d", code, deep, wantedDeep(code))
	}
	b, ok := impl.CodePack(code)
	if ok != want || !bytes.Equal(b, wantedPack(code)) {
		t.Errorf("CodePack(%v) = %v, %t; want %v, %t", code, b, ok, wantedPack(code), want)
	}
	if again, read := impl.CodeRead(b); read != want || want && !sameCode(again, code) || !want && len(again) > 0 {
		t.Errorf("CodeRead of the bytes of %v = %v, %t", code, again, read)
	}
	return want
}

func wantCodeOk(t *testing.T, want bool, code ...impl.Instr) {
	t.Helper()
	if wantCodeAsModel(t, code) != want {
		t.Errorf("CodeOk(%v) is not %t", code, want)
	}
}

func TestCodeConstants(t *testing.T) {
	ops := []int{impl.OpNum, impl.OpLoad, impl.OpSet, impl.OpOne, impl.OpTwo}
	if !slices.Equal(ops, []int{1, 2, 3, 4, 5}) {
		t.Error("the Ops are", ops)
	}
}

func TestCodeOkOrdinary(t *testing.T) {
	plus, one := plainFun('+'), numInstr(1)
	wantCodeOk(t, true, one)
	wantCodeOk(t, true, numInstr(1, 2, 3))
	wantCodeOk(t, true, loadInstr('A'))
	wantCodeOk(t, true, loadInstr('Z'))
	wantCodeOk(t, true, one, setInstr('A'))
	wantCodeOk(t, true, loadInstr('C'), setInstr('Z'))
	wantCodeOk(t, true, one, oneInstr(plus))
	wantCodeOk(t, true, one, loadInstr('B'), twoInstr(plus))
	wantCodeOk(t, true, one, setInstr('A'), setInstr('B'), oneInstr(plus), setInstr('C'), oneInstr(operFun('+', '/')))
	wantCodeOk(t, true, one, one, twoInstr(plus), one, twoInstr(innerFun('+', '*')))
	wantCodeOk(t, true, one, one, one, twoInstr(operFun('*', 'o')), twoInstr(plus))
	wantCodeOk(t, true, one, oneInstr(plus), loadInstr('D'), setInstr('E'), twoInstr(plus), setInstr('F'))
	wantCodeOk(t, true, one, one, one, one, twoInstr(plus), twoInstr(plus), oneInstr(plus), twoInstr(plus))
}

// Too few are on the stack, at the beginning and deeper within, or another
// number than one is left.
func TestCodeOkStack(t *testing.T) {
	plus, one := plainFun('+'), numInstr(1)
	wantCodeOk(t, false)
	wantCodeOk(t, false, setInstr('A'))
	wantCodeOk(t, false, oneInstr(plus))
	wantCodeOk(t, false, twoInstr(plus))
	wantCodeOk(t, false, setInstr('A'), one)
	wantCodeOk(t, false, oneInstr(plus), one)
	wantCodeOk(t, false, twoInstr(plus), one)
	wantCodeOk(t, false, twoInstr(plus), one, one)
	wantCodeOk(t, false, one, twoInstr(plus))
	wantCodeOk(t, false, one, twoInstr(plus), one)
	wantCodeOk(t, false, one, twoInstr(plus), one, one)
	wantCodeOk(t, false, one, setInstr('A'), twoInstr(plus))
	wantCodeOk(t, false, one, oneInstr(plus), twoInstr(plus))
	wantCodeOk(t, false, one, one, twoInstr(plus), twoInstr(plus))
	wantCodeOk(t, false, one, one, twoInstr(plus), twoInstr(plus), one)
	wantCodeOk(t, false, one, one, one, twoInstr(plus), twoInstr(plus), twoInstr(plus))
	wantCodeOk(t, false, one, one, one, twoInstr(plus), twoInstr(plus), twoInstr(plus), one, one)
	wantCodeOk(t, false, one, one)
	wantCodeOk(t, false, loadInstr('A'), loadInstr('A'))
	wantCodeOk(t, false, one, setInstr('A'), one)
	wantCodeOk(t, false, one, one, oneInstr(plus))
	wantCodeOk(t, false, one, one, one, twoInstr(plus))
	wantCodeOk(t, false, one, one, twoInstr(plus), one)
	wantCodeOk(t, false, one, one, one)
}

// everyCode calls each with all lists of that many instructions of choice.
func everyCode(choice []impl.Instr, long int, each func(code []impl.Instr)) {
	numbers := make([]int, len(choice))
	for i := range choice {
		numbers[i] = i
	}
	code := make([]impl.Instr, long)
	everyList(numbers, long, func(some []int) {
		for i, x := range some {
			code[i] = choice[x]
		}
		each(code)
	})
}

// Of all short lists just as many are right as there are ways to grow a tree
// of so many nodes.
func TestCodeOkEveryShortList(t *testing.T) {
	choice := codeOf(numInstr(1), loadInstr('A'), setInstr('B'), oneInstr(plainFun('-')), twoInstr(plainFun('-')))
	for long, want := range []int{0, 2, 4, 12, 40, 144, 544} {
		count := 0
		everyCode(choice, long, func(code []impl.Instr) {
			if wantCodeAsModel(t, code) {
				count++
			}
		})
		if count != want {
			t.Error("of", long, "instructions so many are right:", count)
		}
	}
}

func TestCodeOkHowMany(t *testing.T) {
	if impl.CodeOk(nil) || impl.CodeOk([]impl.Instr{}) {
		t.Error("no instruction is code")
	}
	minus := plainFun('-')
	code := codeOf(numInstr(1))
	for range 100 {
		wantCodeOk(t, len(code) <= 60, code...)
		code = append(code, oneInstr(minus))
	}
	code = codeOf(numInstr(1))
	for range 300 {
		wantCodeOk(t, len(code) <= 60, code...)
		code = append(code, setInstr('A'))
	}
	code = codeOf(numInstr(1))
	for range 50 {
		wantCodeOk(t, len(code) <= 60, code...)
		code = append(code, loadInstr('A'), twoInstr(minus))
	}
	for count := 1; count <= 50; count++ {
		wantCodeOk(t, 2*count-1 <= 60, deepCode(count)...)
	}
	wantCodeOk(t, false, slices.Repeat(codeOf(numInstr(1)), 60)...)
	wantCodeOk(t, false, slices.Repeat(codeOf(numInstr(1)), 100000)...)
}

// deepCode puts all that it has on the stack ahead of taking any of it.
func deepCode(count int) []impl.Instr {
	code := slices.Repeat(codeOf(numInstr(3)), count)
	return append(code, slices.Repeat(codeOf(twoInstr(plainFun('-'))), count-1)...)
}

func TestCodeOkNums(t *testing.T) {
	for _, long := range []int{0, 1, 2, 255, 256, 257, 299, 300, 301, 302, 511, 512, 513, 5000} {
		is := long >= 1 && long <= 300
		nums := numInstr(numbered(long)...)
		wantCodeOk(t, is, nums)
		wantCodeOk(t, is, nums, oneInstr(plainFun('-')))
		wantCodeOk(t, is, nums, nums, twoInstr(plainFun('-')))
		wantCodeOk(t, is, loadInstr('A'), nums, twoInstr(plainFun('-')))
	}
	wantCodeOk(t, false, impl.Instr{Op: impl.OpNum, Nums: []int{}})
	wantCodeOk(t, false, impl.Instr{Op: impl.OpNum})
	for _, x := range rightNumbers() {
		wantCodeOk(t, true, numInstr(x))
		wantCodeOk(t, true, numInstr(0, x))
	}
	for _, x := range wrongNumbers() {
		wantCodeOk(t, false, numInstr(x))
		wantCodeOk(t, false, loadInstr('A'), numInstr(x), twoInstr(plainFun('-')))
		for _, at := range []int{0, 1, 150, 254, 255, 256, 299} {
			nums := make([]int, 300)
			nums[at] = x
			wantCodeOk(t, false, numInstr(nums...))
		}
	}
}

func TestCodeOkLetters(t *testing.T) {
	list := []int{'A', 'Z', 1 << 8, 1<<8 + 1, 1 << 32, -1 << 32, 1<<32 + 1, top, math.MinInt, math.MaxInt}
	for letter := -300; letter <= 300; letter++ {
		list = append(list, letter)
	}
	for _, letter := range list {
		is := letter >= 0 && letter <= 25
		wantCodeOk(t, is, impl.Instr{Op: impl.OpLoad, A: letter})
		wantCodeOk(t, is, numInstr(1), impl.Instr{Op: impl.OpSet, A: letter})
	}
}

// A function stands in OpOne just where it is FunOne, and in OpTwo just where
// it is FunTwo.
func TestCodeOkFunctions(t *testing.T) {
	apart := map[[2]bool]int{}
	for _, f := range noFuns() {
		one, two := wantedFunOne(f), wantedFunTwo(f)
		wantCodeOk(t, one, numInstr(1), oneInstr(f))
		wantCodeOk(t, one, numInstr(1), numInstr(2), oneInstr(f), twoInstr(plainFun('-')))
		wantCodeOk(t, two, numInstr(1), numInstr(2), twoInstr(f))
		apart[[2]bool{one, two}]++
	}
	if len(apart) != 4 {
		t.Error("the test itself lacks functions of one kind:", apart)
	}
	for _, f := range []impl.Fun{plainFun('i'), plainFun('~'), plainFun('z'), plainFun('g'), operFun('+', '/'), operFun('+', '\\')} {
		wantCodeOk(t, true, numInstr(1), oneInstr(f))
		wantCodeOk(t, false, numInstr(1), numInstr(1), twoInstr(f))
	}
	for _, f := range []impl.Fun{plainFun('%'), plainFun('t'), plainFun('@'), plainFun('e'), operFun('+', 'o'), innerFun('+', '*')} {
		wantCodeOk(t, false, numInstr(1), oneInstr(f))
		wantCodeOk(t, true, numInstr(1), numInstr(1), twoInstr(f))
	}
}

// codesOfEachOp have an instruction of each Op as their last one.
func codesOfEachOp() [][]impl.Instr {
	return [][]impl.Instr{codeOf(numInstr(1)), codeOf(loadInstr('C')), codeOf(numInstr(1), setInstr('C')), codeOf(numInstr(1), oneInstr(plainFun('-'))),
		codeOf(numInstr(1), numInstr(2), twoInstr(plainFun('-')))}
}

// What an Op does not name is zero.
func TestCodeOkMoreThanIsNamed(t *testing.T) {
	for _, code := range codesOfEachOp() {
		wantCodeOk(t, true, code...)
		last := len(code) - 1
		spoil := func(change func(x *impl.Instr)) {
			other := copiedCode(code)
			change(&other[last])
			wantCodeOk(t, false, other...)
		}
		op := code[last].Op
		if op != impl.OpLoad && op != impl.OpSet {
			for _, a := range []int{-1, 1, 25, 26, 1 << 8, 1 << 32, math.MinInt} {
				spoil(func(x *impl.Instr) { x.A = a })
			}
		}
		if op != impl.OpOne && op != impl.OpTwo {
			for _, n := range []int{'+', '.', '/', 1, -1, 1 << 8, 1 << 32, math.MinInt} {
				spoil(func(x *impl.Instr) { x.F.Sign = n })
				spoil(func(x *impl.Instr) { x.F.Oper = n })
				spoil(func(x *impl.Instr) { x.F.With = n })
			}
			spoil(func(x *impl.Instr) { x.F = innerFun('+', '*') })
		}
		if op != impl.OpNum {
			spoil(func(x *impl.Instr) { x.Nums = []int{0} })
			spoil(func(x *impl.Instr) { x.Nums = []int{1, 2} })
			spoil(func(x *impl.Instr) { x.Nums = make([]int, 301) })
		}
	}
}

func TestCodeOkOps(t *testing.T) {
	for _, code := range codesOfEachOp() {
		last := len(code) - 1
		op := code[last].Op
		for _, n := range []int{0, 6, 7, -1, -2, -op, op + 1<<8, op - 1<<8, op + 1<<32, op + math.MinInt, math.MinInt, math.MaxInt} {
			other := copiedCode(code)
			other[last].Op = n
			wantCodeOk(t, false, other...)
		}
		for n := -300; n <= 300; n++ {
			other := copiedCode(code)
			other[last].Op = n
			wantCodeAsModel(t, other)
		}
	}
	wantCodeOk(t, false, impl.Instr{})
	wantCodeOk(t, false, impl.Instr{Op: 6})
	wantCodeOk(t, false, numInstr(1), impl.Instr{})
	wantCodeOk(t, false, impl.Instr{}, numInstr(1))
	// An empty list that is not nil is none, too.
	wantCodeOk(t, true, impl.Instr{Op: impl.OpLoad, Nums: []int{}})
	wantCodeOk(t, true, numInstr(1), impl.Instr{Op: impl.OpOne, F: plainFun('-'), Nums: []int{}})
}

// spoiledInstrs has one instruction with one thing changed, in every way.
func spoiledInstrs(x impl.Instr) []impl.Instr {
	var list []impl.Instr
	for _, node := range spoiledNodes(impl.Expr{Kind: x.Op, A: x.A, F: x.F, Nums: x.Nums}, 3) {
		if node.B == 0 {
			list = append(list, impl.Instr{Op: node.Kind, A: node.A, F: node.F, Nums: node.Nums})
		}
	}
	return list
}

// grownCodes are those of trees that are drawn by a fixed rule, made here and
// not by Compile.
func grownCodes(count int) [][]impl.Instr {
	var list [][]impl.Instr
	for _, x := range grownTrees(count) {
		list = append(list, wantedCode(x.nodes))
	}
	return list
}

// Each instruction is spoiled in every way; and one is left out, put in twice,
// or changed with another one.
func TestCodeOkSpoiled(t *testing.T) {
	right, wrong := 0, 0
	look := func(code []impl.Instr) {
		if wantCodeAsModel(t, code) {
			right++
		} else {
			wrong++
		}
	}
	for _, code := range grownCodes(36) {
		for i, x := range code {
			for _, y := range spoiledInstrs(x) {
				other := slices.Clone(code)
				other[i] = y
				look(other)
			}
			look(slices.Delete(slices.Clone(code), i, i+1))
			look(slices.Insert(slices.Clone(code), i, x))
			for j := range i {
				other := slices.Clone(code)
				other[i], other[j] = other[j], other[i]
				look(other)
			}
			look(code[:i])
			look(code[i:])
		}
	}
	if right < 1000 || wrong < 1000 {
		t.Error("the test itself hardly asks for both:", right, wrong)
	}
}

func wantDeep(t *testing.T, want int, code ...impl.Instr) {
	t.Helper()
	if deep := impl.CodeDeep(code); deep != want || wantedDeep(code) != want {
		t.Errorf("CodeDeep(%v) = %d; want %d", code, deep, want)
	}
}

func TestCodeDeepOfLines(t *testing.T) {
	for _, c := range []struct {
		text string
		want int
	}{
		{"1", 1}, {"1 2 3 4 5", 1}, {"A", 1}, {"A : 1", 1}, {"A : B : C : 1", 1}, {"- 1", 1}, {"- - + / i 1", 1}, {"A : - B : - 1", 1},
		{"1 + 2", 2}, {"- 1 + 2", 2}, {"1 + - 2", 2}, {"( - 1 ) + 2", 2}, {"( A : 1 ) + B : 2", 2}, {"A : 2 - i 3", 2},
		{"1 + 2 + 3", 2}, {"1 + 2 + 3 + 4 + 5 + 6", 2}, {"1 o + 2 + . * 3", 2}, {"- 1 + - 2 + - 3", 2},
		{"( 1 + 2 ) + 3", 3}, {"( 1 + 2 + 3 ) + 4", 3}, {"( 1 + 2 ) + 3 + 4", 3}, {"( 1 + 2 ) + ( 3 + 4 ) + 5", 3}, {"1 + ( 2 + 3 ) + 4", 3}, {"( A : 1 + 2 ) + 3", 3}, {"( - 1 + 2 ) + 3", 3},
		{"( 1 + 2 ) + ( 3 + 4 )", 3}, {"( ( - 1 ) + 2 ) + 3", 3}, {"1 + 2 + ( 3 + 4 ) + 5", 3},
		{"( ( 1 + 2 ) + 3 ) + 4", 4}, {"( 1 + ( 2 + 3 ) + 4 ) + 5", 4}, {"( ( 1 + 2 ) + ( 3 + 4 ) + 5 ) + 6", 4}, {"1 + ( ( 2 + 3 ) + 4 ) + 5", 4}, {"A : ( - ( 1 + 2 ) + 3 ) + 4", 4},
		{"( ( ( 1 + 2 ) + 3 ) + 4 ) + 5", 5}, {"( ( ( 1 + 2 ) + 3 ) + 4 ) + ( ( 5 + 6 ) + 7 ) + 8", 5}, {"( ( 1 + 2 ) + 3 ) + ( ( ( 5 + 6 ) + 7 ) + 8 ) + 9", 5},
	} {
		code, ok := impl.Compile(lineTree(t, c.text))
		if !ok {
			t.Error("not compiled:", c.text)
		}
		wantDeep(t, c.want, code...)
	}
}

func TestCodeDeepUpToTheMost(t *testing.T) {
	for count := 1; count <= 30; count++ {
		code := deepCode(count)
		wantDeep(t, count, code...)
		wantDeep(t, count, append(code, setInstr('A'))...)
	}
	// What comes behind the deepest place does not make it less.
	for count := 2; count <= 29; count++ {
		wantDeep(t, count, append(deepCode(count), numInstr(1), twoInstr(plainFun('-')))...)
	}
	wantDeep(t, 0, append(deepCode(30), numInstr(1), twoInstr(plainFun('-')))...)
	wantDeep(t, 0, deepCode(31)...)
}

// What is not code has no deepest stack, however far it comes.
func TestCodeDeepOfWhatIsNotCode(t *testing.T) {
	plus, one := plainFun('+'), numInstr(1)
	wantDeep(t, 0)
	wantDeep(t, 0, one, one)
	wantDeep(t, 0, one, one, one)
	wantDeep(t, 0, twoInstr(plus))
	wantDeep(t, 0, one, twoInstr(plus))
	wantDeep(t, 0, one, twoInstr(plus), one)
	wantDeep(t, 0, one, one, twoInstr(plus), impl.Instr{})
	wantDeep(t, 0, one, one, twoInstr(plus), impl.Instr{Op: 6})
	wantDeep(t, 0, one, one, twoInstr(plainFun('i')))
	wantDeep(t, 0, one, oneInstr(plainFun('%')))
	wantDeep(t, 0, one, numInstr(), twoInstr(plus))
	wantDeep(t, 0, one, numInstr(top+1), twoInstr(plus))
	wantDeep(t, 0, append(slices.Repeat(codeOf(oneInstr(plus)), 60), one)...)
	wantDeep(t, 0, append(codeOf(one), slices.Repeat(codeOf(oneInstr(plus)), 60)...)...)
	for count := 2; count <= 30; count++ {
		code := deepCode(count)
		for long := 2; long < len(code); long++ {
			wantDeep(t, 0, code[:long]...)
		}
		wantDeep(t, 0, append(code, twoInstr(plus))...)
	}
}
