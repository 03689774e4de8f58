package tests

import (
	"math"
	"slices"
	"strings"
	"testing"

	"loop.example/g00182/impl"
)

func TestSessionConstants(t *testing.T) {
	if impl.MaxText != 8000 || impl.MaxLines != 60 || impl.MaxSteps != 100 {
		t.Error("the limits are", impl.MaxText, impl.MaxLines, impl.MaxSteps)
	}
}

// wordsOfCodes has the word of each code in its place.
func wordsOfCodes() []string {
	return []string{"ok", "bad", "domain", "length", "rank", "index", "limit", "value", "syntax", "full", "steps"}
}

func TestCodeText(t *testing.T) {
	for code, want := range wordsOfCodes() {
		if got := impl.CodeText(code); got != want {
			t.Errorf("CodeText(%d) = %q; want %q", code, got, want)
		}
	}
	named := map[int]string{impl.ErNone: "ok", impl.ErBad: "bad", impl.ErDomain: "domain", impl.ErLength: "length", impl.ErRank: "rank", impl.ErIndex: "index",
		impl.ErLimit: "limit", impl.ErValue: "value", impl.ErSyntax: "syntax", impl.ErFull: "full", impl.ErSteps: "steps"}
	for code, want := range named {
		if got := impl.CodeText(code); got != want {
			t.Errorf("CodeText(%d) = %q; want %q", code, got, want)
		}
	}
}

func TestCodeTextOfNoCode(t *testing.T) {
	list := []int{-1, -2, 11, 12, 99, 255, math.MaxInt, math.MinInt, top, -top}
	for code := range 11 {
		list = append(list, -code-1, code+11, code+1<<8, code+1<<16, code+1<<32, code-1<<32, code+math.MinInt)
	}
	for x := -300; x < 600; x++ {
		if x < 0 || x > 10 {
			list = append(list, x)
		}
	}
	for _, code := range list {
		if got := impl.CodeText(code); got != "bad" {
			t.Errorf("CodeText(%d) = %q", code, got)
		}
	}
}

func wantLineCode(t *testing.T, text string, want []impl.Instr, how int) {
	t.Helper()
	if code, got := impl.LineCode(text); !sameCode(code, want) || got != how {
		t.Errorf("LineCode(%q) = %v, %d; want %v, %d", text, code, got, want, how)
	}
}

func wantNoLineCode(t *testing.T, how int, texts ...string) {
	t.Helper()
	for _, text := range texts {
		wantLineCode(t, text, nil, how)
	}
}

// wantedLine is the tree of a text, or the code for which there is none.
func wantedLine(text string) (impl.Tree, int) {
	list, how, _ := wantedLex(text)
	if how != impl.ErNone {
		return impl.Tree{}, how
	}
	return wantedParse(list)
}

func wantLineCodeAsModel(t *testing.T, text string) int {
	t.Helper()
	tree, how := wantedLine(text)
	wantLineCode(t, text, wantedCode(tree.Nodes), how)
	return how
}

func TestLineCodeOrdinary(t *testing.T) {
	plus, minus := twoInstr(plainFun('+')), twoInstr(plainFun('-'))
	wantLineCode(t, "7", codeOf(numInstr(7)), impl.ErNone)
	wantLineCode(t, "1 _2 3", codeOf(numInstr(1, -2, 3)), impl.ErNone)
	wantLineCode(t, "A", codeOf(loadInstr('A')), impl.ErNone)
	wantLineCode(t, "Z:5", codeOf(numInstr(5), setInstr('Z')), impl.ErNone)
	wantLineCode(t, "1 + 2", codeOf(numInstr(2), numInstr(1), plus), impl.ErNone)
	wantLineCode(t, "  1+2 ", codeOf(numInstr(2), numInstr(1), plus), impl.ErNone)
	wantLineCode(t, "(1-2)+3", codeOf(numInstr(3), numInstr(2), numInstr(1), minus, plus), impl.ErNone)
	wantLineCode(t, "1-2+3", codeOf(numInstr(3), numInstr(2), plus, numInstr(1), minus), impl.ErNone)
	wantLineCode(t, "A+A:4", codeOf(numInstr(4), setInstr('A'), loadInstr('A'), plus), impl.ErNone)
	wantLineCode(t, "+/i 5", codeOf(numInstr(5), oneInstr(plainFun('i')), oneInstr(operFun('+', '/'))), impl.ErNone)
	wantLineCode(t, "B+.*B", codeOf(loadInstr('B'), loadInstr('B'), twoInstr(innerFun('+', '*'))), impl.ErNone)
	wantLineCode(t, "((9))", codeOf(numInstr(9)), impl.ErNone)
}

// What Lex refuses, and what Parse refuses when Lex does not.
func TestLineCodeRefused(t *testing.T) {
	wantNoLineCode(t, impl.ErSyntax, "x", "_", "1 _", "1+a", "\n", "1\n", "1\t+ 2", "é", "\x00", "1 .5 _")
	wantNoLineCode(t, impl.ErLimit, "1000000000001", "_1000000000001", "1+1000000000001", "99999999999999999999999", "A:10000000000000000000")
	wantNoLineCode(t, impl.ErSyntax, "", " ", strings.Repeat(" ", 300), "1 +", "+", "( 1", "1 )", "()", "A :", ": 1", "A B", "1 A", "1 ( 2 )", "1 : 2", "1 i 2", "% 2", "o 1", "+ . 1", "/ 1", "i / 1")
}

// A mistake that Lex finds counts ahead of all that Parse would find, wherever
// it stands, and of several that Lex finds the first one, but for the length.
func TestLineCodeWhichIsFirst(t *testing.T) {
	wantNoLineCode(t, impl.ErLimit, ") ) 1000000000001", "1 + 1000000000001 +", "1000000000001 x", "( 1000000000001 _")
	wantNoLineCode(t, impl.ErSyntax, "x 1000000000001", "_ 1000000000001", "1 ) x", "+ x")
	many := strings.Repeat("-", 60) + "1"
	wantNoLineCode(t, impl.ErLimit, many, "("+many+")", many+" 1000000000001")
	wantNoLineCode(t, impl.ErSyntax, many+"x", many+")", "("+many, many+"+", "x"+many)
	long := strings.Repeat("x", 301)
	wantNoLineCode(t, impl.ErLimit, long, strings.Repeat(" ", 301), long+"1000000000001", strings.Repeat(")", 301), strings.Repeat("é", 151), strings.Repeat("1 ", 200))
	wantNoLineCode(t, impl.ErSyntax, strings.Repeat("x", 300), strings.Repeat(")", 300), strings.Repeat("é", 150))
}

// A line of MaxLine bytes and of one more, and of MaxNodes nodes and one more.
func TestLineCodeAtTheLimits(t *testing.T) {
	wantLineCode(t, strings.Repeat(" ", 299)+"7", codeOf(numInstr(7)), impl.ErNone)
	wantLineCode(t, "7"+strings.Repeat(" ", 299), codeOf(numInstr(7)), impl.ErNone)
	wantNoLineCode(t, impl.ErLimit, strings.Repeat(" ", 300)+"7", "7"+strings.Repeat(" ", 300))
	nums := slices.Repeat([]int{7}, 150)
	wantLineCode(t, strings.Repeat("7 ", 150), codeOf(numInstr(nums...)), impl.ErNone)
	wantNoLineCode(t, impl.ErLimit, strings.Repeat("7 ", 150)+"7")
	signs := slices.Repeat(codeOf(oneInstr(plainFun('-'))), 59)
	wantLineCode(t, strings.Repeat("-", 59)+"1", append(codeOf(numInstr(1)), signs...), impl.ErNone)
	wantNoLineCode(t, impl.ErLimit, strings.Repeat("-", 60)+"1")
	codes := map[int]int{}
	for _, count := range []int{58, 59, 60, 61, 62} {
		for _, line := range linesOfNodes(count) {
			codes[wantLineCodeAsModel(t, line)]++
		}
	}
	if codes[impl.ErNone] < 15 || codes[impl.ErLimit] < 15 {
		t.Error("the test itself hardly has both:", codes)
	}
}

// lineTexts are drawn by a fixed rule: lines, and some that are spoiled at a
// place or two.
func lineTexts(count int) []string {
	var list []string
	draw := drawing(170)
	for _, x := range tamedTrees(count) {
		text := impl.TreeText(x)
		if text == "" {
			continue
		}
		if draw(2) == 0 {
			text = strings.ReplaceAll(text, " : ", ":")
		}
		for text != "" && draw(3) == 0 {
			at := draw(len(text))
			text = text[:at] + []string{"x", "_", ")", "(", "1000000000001", "", "+", " "}[draw(8)] + text[at+1:]
		}
		list = append(list, text)
	}
	return list
}

func TestLineCodeAsModel(t *testing.T) {
	codes := map[int]int{}
	for _, text := range slices.Concat(lineTexts(1500), longTexts(300)) {
		codes[wantLineCodeAsModel(t, text)]++
	}
	if codes[impl.ErNone] < 300 || codes[impl.ErSyntax] < 100 || codes[impl.ErLimit] < 50 || len(codes) != 3 {
		t.Error("the test itself hardly has lines of each kind:", codes)
	}
}
