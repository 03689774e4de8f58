package tests

import (
	"bytes"
	"slices"
	"testing"

	"loop.example/g00182/impl"
)

// guardedCode is code with spare room behind each of its lists, and what all
// of it must look like behind every call.
type guardedCode struct {
	code, room []impl.Instr
	was        []impl.Instr
}

func guardCode(code []impl.Instr) guardedCode {
	var g guardedCode
	g.room = append(copiedCode(code), numInstr(81, 82), oneInstr(plainFun('-')))
	g.code = g.room[:len(code)]
	for i := range g.code {
		g.code[i].Nums, _ = withSpare(g.code[i].Nums)
	}
	g.was = codeWithRoom(g.room)
	return g
}

// codeWithRoom is a copy of code with the room behind its lists in it.
func codeWithRoom(code []impl.Instr) []impl.Instr {
	list := slices.Clone(code)
	for i, x := range list {
		list[i].Nums = slices.Clone(x.Nums[:cap(x.Nums)])
	}
	return list
}

func (g guardedCode) check(t *testing.T) {
	t.Helper()
	if !sameCode(codeWithRoom(g.room), g.was) {
		t.Error("written into:", g.was, g.room)
	}
}

// scribbleCode writes over a list and all the room behind it, but leaves what
// its Nums were to be looked at.
func scribbleCode(code []impl.Instr) {
	all := code[:cap(code)]
	for i := range all {
		all[i] = impl.Instr{Op: 91, A: 92, F: impl.Fun{Sign: 93, Oper: 94, With: 95}, Nums: []int{96}}
	}
	_ = append(code, impl.Instr{Op: 97})
}

func scribbleAllCode(code []impl.Instr) {
	for _, x := range code {
		scribble(x.Nums)
	}
	scribbleCode(code)
}

func scribbleBytes(b []byte) {
	all := b[:cap(b)]
	for i := range all {
		all[i] ^= 0x5A
	}
	_ = append(b, 98, 99)
}

// wantOwnCode asks that a write into any list of code that is answered, or
// behind it, turns no other one, nor another answer.
func wantOwnCode(t *testing.T, answered func() []impl.Instr) {
	t.Helper()
	was := copiedCode(answered())
	for i, x := range was {
		code := answered()
		scribble(code[i].Nums)
		code[i].Nums = x.Nums
		if !sameCode(code, was) {
			t.Errorf("a write into the numbers of instruction %d turns another one: %v, %v", i, code, was)
		}
	}
	first, second := answered(), answered()
	kept := slices.Clone(first)
	scribbleCode(first)
	if !sameCode(kept, was) || !sameCode(second, was) {
		t.Error("a write into the code turns its numbers, or another answer:", kept, second, was)
	}
	scribbleAllCode(kept)
	if !sameCode(second, was) || !sameCode(answered(), was) {
		t.Error("a write into an answer turns another one:", second, was)
	}
}

// treesForCode have several lists of numbers in one tree; some are not right.
func treesForCode(t *testing.T) []impl.Tree {
	var trees []impl.Tree
	for _, text := range []string{"1", "A", "1 2 3", "1 2 3 + 4 5 6", "( 1 2 - 3 ) * A : 4 5 6 7 8", "1 + 2 + 3 + 4 + 5", "( 7 7 ) o + ( 8 8 8 ) , i 9"} {
		trees = append(trees, lineTree(t, text))
	}
	trees = append(trees, impl.Tree{}, treeOf(numNode()), treeOf(numNode(1), numNode(2)), treeOf(numNode(top+1)), treeOf(numNode(numbered(300)...), oneNode(plainFun('-'), 0)), treeOf(numNode(numbered(301)...)))
	return append(trees, treesOf(grownTrees(120))...)
}

func TestCompileIsNewMemory(t *testing.T) {
	for _, x := range treesForCode(t) {
		part, room := spareTree(x)
		was := withRoom(room)
		wantOwnCode(t, func() []impl.Instr {
			code, _ := impl.Compile(part)
			return code
		})
		code, ok := impl.Compile(part)
		if !sameTree(withRoom(room), was) {
			t.Error("written into:", was, room)
		}
		kept := copiedCode(code)
		for _, node := range room.Nodes {
			scribble(node.Nums)
		}
		scribbleNodes(room.Nodes)
		if !sameCode(code, kept) || ok != wantedTreeOk(x) {
			t.Error("a write into the tree turns its code:", code, kept)
		}
		wantCompiledAsModel(t, x)
	}
}

// codesForMemory have right code, and some that is not.
func codesForMemory() [][]impl.Instr {
	list := append(codesToSpoil(), nil, codeOf(numInstr()), codeOf(numInstr(1), numInstr(2)), codeOf(numInstr(top+1)), codeOf(setInstr('A')), codeOf(impl.Instr{}), codeOf(numInstr(numbered(300)...), setInstr('B')),
		codeOf(numInstr(numbered(301)...)), codeOf(numInstr(1, 2, 3), numInstr(4, 5, 6), twoInstr(plainFun('-'))), slices.Repeat(codeOf(numInstr(1, 2)), 61))
	return append(list, grownCodes(120)...)
}

func TestCodeWritesIntoNothing(t *testing.T) {
	for _, code := range codesForMemory() {
		g := guardCode(code)
		for range 2 {
			if impl.CodeOk(g.code) != wantedCodeOk(code) || impl.CodeDeep(g.code) != wantedDeep(code) {
				t.Error("CodeOk or CodeDeep is wrong of", code)
			}
			g.check(t)
		}
		first, ok := impl.CodePack(g.code)
		second, _ := impl.CodePack(g.code)
		g.check(t)
		scribbleBytes(first)
		g.check(t)
		scribbleAllCode(g.room)
		if ok != wantedCodeOk(code) || !bytes.Equal(second, wantedPack(code)) {
			t.Error("the bytes share memory with the code, or with other bytes:", second, code)
		}
		wantCodeAsModel(t, code)
	}
}

func TestCodeReadIsNewMemory(t *testing.T) {
	for _, code := range codesForMemory() {
		b := looseBytes(len(code), code...)
		room := append(slices.Clone(b), 71, 72, 73, 74)
		part, was := room[:len(b)], slices.Clone(room)
		wantOwnCode(t, func() []impl.Instr {
			code, _ := impl.CodeRead(part)
			return code
		})
		first, _ := impl.CodeRead(part)
		second, ok := impl.CodeRead(part)
		scribbleAllCode(first)
		if !bytes.Equal(room, was) {
			t.Error("written into:", was, room)
		}
		scribbleBytes(room)
		if ok != wantedCodeOk(code) || ok && !sameCode(second, code) {
			t.Error("the code shares memory with its bytes, or with other code:", second, code)
		}
	}
}

// One list may stand in many places of what is handed in.
func TestCodeOfOneList(t *testing.T) {
	nums := []int{4, 5, 6, 7}
	num := impl.Instr{Op: impl.OpNum, Nums: nums[:3]}
	code := codeOf(num, num, num, twoInstr(plainFun('-')), twoInstr(plainFun('+')))
	node := impl.Expr{Kind: impl.ExNum, Nums: nums[:3]}
	tree := treeOf(node, node, node, twoNode(plainFun('-'), 2, 1), twoNode(plainFun('+'), 3, 0))
	wantCompiled(t, tree, code...)
	wantPacked(t, looseBytes(5, code...), code...)
	wantOwnCode(t, func() []impl.Instr {
		list, _ := impl.Compile(tree)
		return list
	})
	wantOwnCode(t, func() []impl.Instr {
		list, _ := impl.CodeRead(looseBytes(5, code...))
		return list
	})
	if !slices.Equal(nums, []int{4, 5, 6, 7}) {
		t.Error("written into:", nums)
	}
}
