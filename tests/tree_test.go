package tests

import (
	"math"
	"slices"
	"strings"
	"testing"

	"loop.example/g00182/impl"
)

const (
	rightAlone = signsOfOne + "i#,rzg"
	eitherSide = signsOfTwo + "#,tdr@?$e"
)

func plainFun(sign byte) impl.Fun { return impl.Fun{Sign: int(sign)} }

func operFun(sign byte, oper byte) impl.Fun { return impl.Fun{Sign: int(sign), Oper: int(oper)} }

func innerFun(f byte, g byte) impl.Fun { return impl.Fun{Sign: int(f), Oper: '.', With: int(g)} }

func numNode(nums ...int) impl.Expr { return impl.Expr{Kind: impl.ExNum, Nums: nums} }

func nameNode(letter byte) impl.Expr { return impl.Expr{Kind: impl.ExName, A: int(letter) - 65} }

func setNode(letter byte, b int) impl.Expr {
	return impl.Expr{Kind: impl.ExSet, A: int(letter) - 65, B: b}
}

func oneNode(f impl.Fun, b int) impl.Expr { return impl.Expr{Kind: impl.ExOne, F: f, B: b} }

func twoNode(f impl.Fun, a int, b int) impl.Expr {
	return impl.Expr{Kind: impl.ExTwo, F: f, A: a, B: b}
}

func treeOf(nodes ...impl.Expr) impl.Tree { return impl.Tree{Nodes: nodes} }

func sameNode(a impl.Expr, b impl.Expr) bool {
	return a.Kind == b.Kind && a.A == b.A && a.B == b.B && a.F == b.F && slices.Equal(a.Nums, b.Nums)
}

func sameTree(a impl.Tree, b impl.Tree) bool { return slices.EqualFunc(a.Nodes, b.Nodes, sameNode) }

func copiedTree(x impl.Tree) impl.Tree {
	nodes := slices.Clone(x.Nodes)
	for i := range nodes {
		nodes[i].Nums = slices.Clone(nodes[i].Nums)
	}
	return impl.Tree{Nodes: nodes}
}

// wordTokens reads a text word by word, so that it may have more bytes than a
// line.
func wordTokens(t *testing.T, text string) []impl.Token {
	t.Helper()
	var list []impl.Token
	for _, word := range strings.Fields(text) {
		some, code, _ := impl.Lex(word)
		if code != impl.ErNone {
			t.Fatalf("the test itself writes no tokens: %q in %q", word, text)
		}
		list = append(list, some...)
	}
	return list
}

func wantParse(t *testing.T, list []impl.Token, want impl.Tree, wantCode int) {
	t.Helper()
	if tree, code := impl.Parse(list); !sameTree(tree, want) || code != wantCode {
		t.Errorf("Parse of %q = %v, %d; want %v, %d", impl.TokenText(list), tree, code, want, wantCode)
	}
}

func wantTree(t *testing.T, text string, nodes ...impl.Expr) {
	t.Helper()
	wantParse(t, wordTokens(t, text), treeOf(nodes...), impl.ErNone)
}

func wantNoTree(t *testing.T, code int, texts ...string) {
	t.Helper()
	for _, text := range texts {
		wantParse(t, wordTokens(t, text), impl.Tree{}, code)
	}
}

// wantAlike asks for one tree of all these texts.
func wantAlike(t *testing.T, texts ...string) {
	t.Helper()
	first, code := impl.Parse(wordTokens(t, texts[0]))
	if code != impl.ErNone {
		t.Errorf("%q is no line: %d", texts[0], code)
	}
	for _, text := range texts {
		wantTree(t, text, first.Nodes...)
	}
}

func TestTreeConstants(t *testing.T) {
	kinds := []int{impl.ExNum, impl.ExName, impl.ExSet, impl.ExOne, impl.ExTwo}
	if !slices.Equal(kinds, []int{1, 2, 3, 4, 5}) || impl.MaxNodes != 60 {
		t.Error("the kinds are", kinds, "and MaxNodes is", impl.MaxNodes)
	}
}

func isByteOf(known string, x int) bool {
	return x >= 0 && x < 256 && strings.IndexByte(known, byte(x)) >= 0
}

func wantedFunOne(f impl.Fun) bool {
	return f.With == 0 && (f.Oper == 0 && isByteOf(rightAlone, f.Sign) || isByteOf(`/\`, f.Oper) && isByteOf(signsOfTwo, f.Sign))
}

func wantedFunTwo(f impl.Fun) bool {
	switch {
	case f.Oper == '.':
		return isByteOf(signsOfTwo, f.Sign) && isByteOf(signsOfTwo, f.With)
	case f.With != 0:
		return false
	}
	return f.Oper == 0 && isByteOf(eitherSide, f.Sign) || f.Oper == 'o' && isByteOf(signsOfTwo, f.Sign)
}

func wantFun(t *testing.T, f impl.Fun) {
	t.Helper()
	if one, two := impl.FunOne(f), impl.FunTwo(f); one != wantedFunOne(f) || two != wantedFunTwo(f) {
		t.Errorf("of %v FunOne and FunTwo are %t, %t; want %t, %t", f, one, two, wantedFunOne(f), wantedFunTwo(f))
	}
}

// everyNumber has each byte, each number near the bytes, and some that are a
// sign only when their high bits are cut away.
func everyNumber() []int { return append(wrongSigns(everySign), bytesOf(everySign)...) }

func bytesOf(text string) []int {
	var list []int
	for _, b := range []byte(text) {
		list = append(list, int(b))
	}
	return list
}

// Each of the three numbers in turn is any number, beside some of the others.
func TestFunsOfEveryNumber(t *testing.T) {
	some := append(bytesOf(`+%~i#t/\.o_A`), 0, 1, -1, '+'+1<<8, '.'+1<<32, '/'-1<<32, math.MinInt, math.MaxInt)
	for _, x := range everyNumber() {
		for _, y := range some {
			for _, z := range some {
				wantFun(t, impl.Fun{Sign: x, Oper: y, With: z})
				wantFun(t, impl.Fun{Sign: y, Oper: x, With: z})
				wantFun(t, impl.Fun{Sign: y, Oper: z, With: x})
			}
		}
	}
}

func TestFunsOfEverySign(t *testing.T) {
	ones, twos := 0, 0
	all := append(bytesOf(everySign), 0)
	for _, sign := range all {
		for _, oper := range all {
			for _, with := range all {
				f := impl.Fun{Sign: sign, Oper: oper, With: with}
				wantFun(t, f)
				if impl.FunOne(f) {
					ones++
				}
				if impl.FunTwo(f) {
					twos++
				}
			}
		}
	}
	if ones != 11+10+10 || twos != 19+10+100 {
		t.Error("so many may have one array, or two:", ones, twos)
	}
}

func TestFunsWithMoreThanTheyName(t *testing.T) {
	for _, with := range everyNumber() {
		for _, oper := range []byte("/\\o") {
			f := impl.Fun{Sign: '+', Oper: int(oper), With: with}
			if (impl.FunOne(f) || impl.FunTwo(f)) != (with == 0) {
				t.Error("With beside an Oper that has none:", f)
			}
		}
		f := impl.Fun{Sign: '+', With: with}
		if impl.FunOne(f) != (with == 0) || impl.FunTwo(f) != (with == 0) {
			t.Error("With beside no Oper:", f)
		}
	}
	if (impl.FunOne(impl.Fun{}) || impl.FunTwo(impl.Fun{})) {
		t.Error("the function of no sign may have an array")
	}
}

func TestParseEachKindAlone(t *testing.T) {
	wantTree(t, "1", numNode(1))
	wantTree(t, "0", numNode(0))
	wantTree(t, "_1000000000000", numNode(-top))
	wantTree(t, "1 2", numNode(1, 2))
	wantTree(t, "3 _4 5 0 0 3", numNode(3, -4, 5, 0, 0, 3))
	wantTree(t, "A", nameNode('A'))
	wantTree(t, "Z", nameNode('Z'))
	wantTree(t, "A : 7", numNode(7), setNode('A', 0))
	wantTree(t, "Z : A", nameNode('A'), setNode('Z', 0))
	wantTree(t, "- 7", numNode(7), oneNode(plainFun('-'), 0))
	wantTree(t, "7 - 8", numNode(8), numNode(7), twoNode(plainFun('-'), 1, 0))
	wantTree(t, "B - C", nameNode('C'), nameNode('B'), twoNode(plainFun('-'), 1, 0))
}

// Each kind stands within each other one, wherever that takes something.
func TestParseKindsWithin(t *testing.T) {
	minus := plainFun('-')
	wantTree(t, "- 1 2", numNode(1, 2), oneNode(minus, 0))
	wantTree(t, "- A", nameNode('A'), oneNode(minus, 0))
	wantTree(t, "- B : 1", numNode(1), setNode('B', 0), oneNode(minus, 1))
	wantTree(t, "- - 1", numNode(1), oneNode(minus, 0), oneNode(minus, 1))
	wantTree(t, "- 2 - 1", numNode(1), numNode(2), twoNode(minus, 1, 0), oneNode(minus, 2))
	wantTree(t, "C : 1 2", numNode(1, 2), setNode('C', 0))
	wantTree(t, "C : B : 1", numNode(1), setNode('B', 0), setNode('C', 1))
	wantTree(t, "C : - 1", numNode(1), oneNode(minus, 0), setNode('C', 1))
	wantTree(t, "C : 2 - 1", numNode(1), numNode(2), twoNode(minus, 1, 0), setNode('C', 2))
	wantTree(t, "3 4 - B : 1", numNode(1), setNode('B', 0), numNode(3, 4), twoNode(minus, 2, 1))
	wantTree(t, "A - - 1", numNode(1), oneNode(minus, 0), nameNode('A'), twoNode(minus, 2, 1))
	wantTree(t, "3 - 2 - 1", numNode(1), numNode(2), twoNode(minus, 1, 0), numNode(3), twoNode(minus, 3, 2))
	wantTree(t, "( - 2 ) - 1", numNode(1), numNode(2), oneNode(minus, 1), twoNode(minus, 2, 0))
	wantTree(t, "( B : 2 ) - 1", numNode(1), numNode(2), setNode('B', 1), twoNode(minus, 2, 0))
	wantTree(t, "( 3 - 2 ) - 1", numNode(1), numNode(2), numNode(3), twoNode(minus, 2, 1), twoNode(minus, 3, 0))
}

// What is on the right is done first, then what is on the left, then what
// takes them; so B of the last one lies further ahead than A.
func TestParseOrderOfNodes(t *testing.T) {
	wantTree(t, "( 1 - 2 ) * 3 + ( 4 & 5 ) ^ 6",
		numNode(6), numNode(5), numNode(4), twoNode(plainFun('&'), 2, 1), twoNode(plainFun('^'), 3, 0),
		numNode(3), twoNode(plainFun('+'), 5, 4), numNode(2), numNode(1), twoNode(plainFun('-'), 8, 7), twoNode(plainFun('*'), 9, 6))
	wantTree(t, "A : ( 1 - 2 ) * + / 3 4",
		numNode(3, 4), oneNode(operFun('+', '/'), 0), numNode(2), numNode(1), twoNode(plainFun('-'), 3, 2),
		twoNode(plainFun('*'), 4, 1), setNode('A', 5))
	wantTree(t, "( ( A + B ) - C ) o * D",
		nameNode('D'), nameNode('C'), nameNode('B'), nameNode('A'), twoNode(plainFun('+'), 3, 2),
		twoNode(plainFun('-'), 4, 1), twoNode(operFun('*', 'o'), 5, 0))
	wantTree(t, "( A : 1 ) + ( B : 2 ) + C : 3",
		numNode(3), setNode('C', 0), numNode(2), setNode('B', 2), twoNode(plainFun('+'), 3, 1),
		numNode(1), setNode('A', 5), twoNode(plainFun('+'), 6, 4))
}

func funWords(f impl.Fun) string {
	s := string(rune(f.Sign))
	switch f.Oper {
	case 'o':
		return "o " + s
	case '/', '\\':
		return s + " " + string(rune(f.Oper))
	case '.':
		return s + " . " + string(rune(f.With))
	}
	return s
}

// everyFun has each function that can be written, whether it may stand
// anywhere or not.
func everyFun() []impl.Fun {
	var list []impl.Fun
	for _, f := range []byte(everySign) {
		list = append(list, plainFun(f), operFun(f, '/'), operFun(f, '\\'), operFun(f, 'o'))
		for _, g := range []byte(everySign) {
			list = append(list, innerFun(f, g))
		}
	}
	return list
}

// Each function stands on the right alone just where it is FunOne, and between
// two just where it is FunTwo; all others are no line, whatever stands there.
func TestParseEveryFunction(t *testing.T) {
	for _, f := range everyFun() {
		words := funWords(f)
		if wantedFunOne(f) {
			wantTree(t, words+" 1 2", numNode(1, 2), oneNode(f, 0))
			wantTree(t, words+" A", nameNode('A'), oneNode(f, 0))
			wantTree(t, words+" ( - 1 )", numNode(1), oneNode(plainFun('-'), 0), oneNode(f, 1))
			wantTree(t, words+" "+words+" 1", numNode(1), oneNode(f, 0), oneNode(f, 1))
			wantTree(t, "3 - "+words+" 1", numNode(1), oneNode(f, 0), numNode(3), twoNode(plainFun('-'), 2, 1))
			wantTree(t, "( "+words+" 1 ) - 3", numNode(3), numNode(1), oneNode(f, 1), twoNode(plainFun('-'), 2, 0))
			wantTree(t, "A : "+words+" 1", numNode(1), oneNode(f, 0), setNode('A', 1))
		} else {
			wantNoTree(t, impl.ErSyntax, words+" 1 2", words+" A", words+" ( - 1 )", "( "+words+" 1 )", "A : "+words+" 1", "3 - "+words+" 1")
		}
		if wantedFunTwo(f) {
			wantTree(t, "3 4 "+words+" 1 2", numNode(1, 2), numNode(3, 4), twoNode(f, 1, 0))
			wantTree(t, "A "+words+" B", nameNode('B'), nameNode('A'), twoNode(f, 1, 0))
			wantTree(t, "A "+words+" B "+words+" 1", numNode(1), nameNode('B'), twoNode(f, 1, 0), nameNode('A'), twoNode(f, 3, 2))
			wantTree(t, "( A "+words+" B ) "+words+" 1", numNode(1), nameNode('B'), nameNode('A'), twoNode(f, 2, 1), twoNode(f, 3, 0))
			wantTree(t, "- A "+words+" 1", numNode(1), nameNode('A'), twoNode(f, 1, 0), oneNode(plainFun('-'), 2))
			wantTree(t, "C : A "+words+" 1", numNode(1), nameNode('A'), twoNode(f, 1, 0), setNode('C', 2))
		} else {
			wantNoTree(t, impl.ErSyntax, "3 4 "+words+" 1 2", "A "+words+" B", "( A ) "+words+" B", "( A "+words+" B )", "C : A "+words+" 1")
		}
	}
}

// With nothing on its right no function stands anywhere.
func TestParseFunctionsOfNothing(t *testing.T) {
	for _, f := range everyFun() {
		words := funWords(f)
		wantNoTree(t, impl.ErSyntax, words, "1 "+words, "A "+words, "( "+words+" )", "( 1 "+words+" )", "( 1 "+words+" ) 2", "( "+words+" ) 1",
			"A : "+words, "- "+words, "1 - "+words, words+" )", "1 "+words+" )", words+" :", "( 1 ) "+words)
	}
}

// A function of several signs is taken ahead of a shorter one.
func TestParseFunctionsOfSeveralSigns(t *testing.T) {
	wantTree(t, "- + / 1", numNode(1), oneNode(operFun('+', '/'), 0), oneNode(plainFun('-'), 1))
	wantTree(t, "+ / - 1", numNode(1), oneNode(plainFun('-'), 0), oneNode(operFun('+', '/'), 1))
	wantTree(t, "+ / - \\ 1", numNode(1), oneNode(operFun('-', '\\'), 0), oneNode(operFun('+', '/'), 1))
	wantTree(t, "A o + - 1", numNode(1), oneNode(plainFun('-'), 0), nameNode('A'), twoNode(operFun('+', 'o'), 2, 1))
	wantTree(t, "A o + - / 1", numNode(1), oneNode(operFun('-', '/'), 0), nameNode('A'), twoNode(operFun('+', 'o'), 2, 1))
	wantTree(t, "A + . * - 1", numNode(1), oneNode(plainFun('-'), 0), nameNode('A'), twoNode(innerFun('+', '*'), 2, 1))
	wantTree(t, "A + . * - / 1", numNode(1), oneNode(operFun('-', '/'), 0), nameNode('A'), twoNode(innerFun('+', '*'), 2, 1))
	wantTree(t, "A + - / 1", numNode(1), oneNode(operFun('-', '/'), 0), nameNode('A'), twoNode(plainFun('+'), 2, 1))
	wantTree(t, "A + - + 1", numNode(1), oneNode(plainFun('+'), 0), oneNode(plainFun('-'), 1), nameNode('A'), twoNode(plainFun('+'), 3, 2))
	wantNoTree(t, impl.ErSyntax, "1 + / 2", "1 + \\ 2", "o + 2", "+ . * 2", "1 o + / 2", "1 + . * / 2", "1 + / . * 2", "+ / / 2", "+ / \\ 2",
		"1 + . * . - 2", "1 o o + 2", "1 o 2", "o 2", "1 + . 2", "1 + . ( 2 )", "+ . 2", "1 . 2", ". 2", "1 . + 2", "1 + . . 2", "1 + . o * 2",
		"1 + o * 2", "+ o * 2", "/ 1", "\\ 1", "1 / 2", "1 \\ 2", "1 / + 2", "1 + . i 2", "1 i . + 2", "~ / 1", "i / 1", "# / 1", "1 o # 2", "1 o ~ 2",
		"1 + ( / 2 )", "( + ) / 2", "( 1 + ) / 2", "( + / ) 1", "+ ( / ) 1", "1 ( + ) 2", "1 o ( + ) 2", "1 + . ( * ) 2", "1 ( o + ) 2")
}

func TestParseSignsByWhereTheyStand(t *testing.T) {
	for _, s := range everySign {
		right, both := string(s)+" 1", "2 "+string(s)+" 1"
		if wantedFunOne(plainFun(byte(s))) {
			wantTree(t, right, numNode(1), oneNode(plainFun(byte(s)), 0))
		} else {
			wantNoTree(t, impl.ErSyntax, right)
		}
		if wantedFunTwo(plainFun(byte(s))) {
			wantTree(t, both, numNode(1), numNode(2), twoNode(plainFun(byte(s)), 1, 0))
		} else {
			wantNoTree(t, impl.ErSyntax, both)
		}
	}
	wantNoTree(t, impl.ErSyntax, "% 1", "t 1", "@ 1", "& 1", "= 1", "1 i 2", "1 ~ 2", "1 z 2", "1 g 2")
	wantAlike(t, "# 1", "( # 1 )")
	wantAlike(t, "2 # 1", "( 2 # 1 )")
}

func TestParseSet(t *testing.T) {
	wantTree(t, "A : B : C : 3", numNode(3), setNode('C', 0), setNode('B', 1), setNode('A', 2))
	wantTree(t, "A : A", nameNode('A'), setNode('A', 0))
	wantTree(t, "A : A : A", nameNode('A'), setNode('A', 0), setNode('A', 1))
	wantTree(t, "1 + A : 2", numNode(2), setNode('A', 0), numNode(1), twoNode(plainFun('+'), 2, 1))
	wantTree(t, "A + A : 2", numNode(2), setNode('A', 0), nameNode('A'), twoNode(plainFun('+'), 2, 1))
	wantTree(t, "( A : 1 ) + A : 2", numNode(2), setNode('A', 0), numNode(1), setNode('A', 2), twoNode(plainFun('+'), 3, 1))
	wantTree(t, "+ / Q : i 9", numNode(9), oneNode(plainFun('i'), 0), setNode('Q', 1), oneNode(operFun('+', '/'), 2))
	wantAlike(t, "A : B : 1", "A : ( B : 1 )", "( A : B : 1 )", "( A : ( B : ( 1 ) ) )")
	wantAlike(t, "1 + A : 2 + 3", "1 + ( A : 2 + 3 )", "1 + A : ( 2 + 3 )")
	for letter := byte('A'); letter <= 'Z'; letter++ {
		wantTree(t, string(rune(letter))+" : 1", numNode(1), setNode(letter, 0))
		wantTree(t, "- "+string(rune(letter)), nameNode(letter), oneNode(plainFun('-'), 0))
	}
	wantNoTree(t, impl.ErSyntax, "A :", ": 1", ":", "1 : 2", "1 2 : 3", "( A ) : 1", "( A : ) 1", "( A : )", "A : )", "A : : 1", "A ( : ) 1", "A ( : 1 )",
		"A B : 1", "1 A : 2", "A : B :", "A + B : ", "+ : 1", "A + : 1", "A : 1 : 2", "( A : 1 ) : 2", ") : 1", "( : 1 )", "A : 1 B : 2", "A : ( ) 1", "i : 1")
}

func TestParseBrackets(t *testing.T) {
	wantAlike(t, "1", "( 1 )", "( ( 1 ) )", "( ( ( ( 1 ) ) ) )")
	wantAlike(t, "A", "( A )", "( ( A ) )")
	wantAlike(t, "1 2 3", "( 1 2 3 )", "( ( 1 2 3 ) )")
	wantAlike(t, "1 + 2", "( 1 + 2 )", "( 1 ) + 2", "1 + ( 2 )", "( 1 ) + ( 2 )", "( ( 1 ) + ( ( 2 ) ) )")
	wantAlike(t, "1 2 + 3", "( 1 2 ) + 3")
	wantAlike(t, "1 - 2 - 3", "1 - ( 2 - 3 )", "( 1 - ( ( 2 ) - 3 ) )")
	wantAlike(t, "( 1 - 2 ) - 3", "( ( 1 - 2 ) - 3 )", "( ( ( 1 - 2 ) ) - ( 3 ) )")
	wantAlike(t, "- 1 + 2", "- ( 1 + 2 )", "( - 1 + 2 )")
	wantAlike(t, "( - 1 ) + 2", "( ( - 1 ) ) + ( 2 )", "( ( - ( 1 ) ) + 2 )")
	wantAlike(t, "+ / 1 2", "+ / ( 1 2 )", "( + / 1 2 )")
	wantAlike(t, "A + . * B", "( A ) + . * ( B )", "( A + . * B )")
	left, _ := impl.Parse(wordTokens(t, "( 1 - 2 ) - 3"))
	right, _ := impl.Parse(wordTokens(t, "1 - 2 - 3"))
	if sameTree(left, right) {
		t.Error("brackets on the left turn nothing:", left)
	}
	wantNoTree(t, impl.ErSyntax, "(", ")", "( )", ") (", "( ( ) )", "( 1", "1 )", "( 1 ) )", "( ( 1 )", "1 (", ") 1", "( 1 + 2", "1 + 2 )", "1 + ( 2", "( 1 + ( 2 )",
		"1 + ( )", "( ) + 1", "- ( )", "( ) 1", "1 ( )", "A : ( )", "( 1 ( ) )", "+ / ( )", "( ( ) + 1 )", "1 + ) 2 (")
}

// Nothing but a function stands between two operands.
func TestParseOperandsSideBySide(t *testing.T) {
	operands := []string{"1", "1 2", "A", "( 1 )", "( A )", "( - 1 )", "( A : 1 )", "( 1 + 2 )"}
	for _, a := range operands {
		for _, b := range operands {
			if a[0] == '1' && b[0] == '1' {
				continue
			}
			wantNoTree(t, impl.ErSyntax, a+" "+b, "- "+a+" "+b, "( "+a+" "+b+" )", "C : "+a+" "+b, "1 + "+a+" "+b, a+" "+b+" + 1", "( "+a+" ) "+b)
		}
	}
	wantTree(t, "1 1 2", numNode(1, 1, 2))
	wantNoTree(t, impl.ErSyntax, "( 1 ) 2", "1 ( 2 )", "( 1 ) ( 2 )", "( 1 2 ) 3", "A A", "A 1", "1 A", "1 A 2", "A 1 + 2", "1 + 2 A")
}

func TestParseNumbersAsManyAsStandThere(t *testing.T) {
	for _, long := range []int{1, 2, 3, 60, 61, 150, 297} {
		nums := numbered(long)
		list := make([]impl.Token, long)
		for i, x := range nums {
			list[i] = numToken(x)
		}
		wantParse(t, list, treeOf(numNode(nums...)), impl.ErNone)
		wantParse(t, slices.Concat(list, []impl.Token{signToken('+'), nameToken('A')}), treeOf(nameNode('A'), numNode(nums...), twoNode(plainFun('+'), 1, 0)), impl.ErNone)
		wantParse(t, slices.Concat([]impl.Token{nameToken('A'), signToken(',')}, list), treeOf(numNode(nums...), nameNode('A'), twoNode(plainFun(','), 1, 0)), impl.ErNone)
		wantParse(t, slices.Concat([]impl.Token{nameToken('B'), setting}, list), treeOf(numNode(nums...), setNode('B', 0)), impl.ErNone)
	}
	for _, x := range rightNumbers() {
		wantParse(t, []impl.Token{numToken(x)}, treeOf(numNode(x)), impl.ErNone)
		wantParse(t, []impl.Token{numToken(0), numToken(x)}, treeOf(numNode(0, x)), impl.ErNone)
	}
}

func TestParseOneTokenOrNone(t *testing.T) {
	wantParse(t, nil, impl.Tree{}, impl.ErSyntax)
	wantParse(t, []impl.Token{}, impl.Tree{}, impl.ErSyntax)
	for _, x := range everyToken() {
		switch x.Kind {
		case impl.TkNum:
			wantParse(t, []impl.Token{x}, treeOf(numNode(x.Value)), impl.ErNone)
		case impl.TkName:
			wantParse(t, []impl.Token{x}, treeOf(impl.Expr{Kind: impl.ExName, A: x.Value}), impl.ErNone)
		default:
			wantParse(t, []impl.Token{x}, impl.Tree{}, impl.ErSyntax)
		}
	}
}

// A list of MaxLine tokens is read, with whatever code; one more is ErBad.
func TestParseLength(t *testing.T) {
	nums := slices.Repeat([]int{-top, 7}, 150)
	list := make([]impl.Token, 300)
	for i, x := range nums {
		list[i] = numToken(x)
	}
	wantParse(t, list, treeOf(numNode(nums...)), impl.ErNone)
	wantParse(t, append(slices.Clone(list), numToken(1)), impl.Tree{}, impl.ErBad)
	for _, c := range []struct {
		text string
		code int
	}{{"A ", impl.ErSyntax}, {"( ", impl.ErSyntax}, {") ", impl.ErSyntax}, {": ", impl.ErSyntax}, {"- ", impl.ErSyntax}, {"o ", impl.ErSyntax}, {"A : ", impl.ErSyntax}} {
		all := wordTokens(t, strings.Repeat(c.text, 400))
		wantParse(t, all[:300], impl.Tree{}, c.code)
		for _, long := range []int{301, 302, 400} {
			wantParse(t, all[:long], impl.Tree{}, impl.ErBad)
		}
	}
	wantNoTree(t, impl.ErLimit, strings.Repeat("- ", 299)+"1", strings.Repeat("A : ", 149)+"- 1", strings.Repeat("A - ", 149)+"- 1")
	wantNoTree(t, impl.ErBad, strings.Repeat("- ", 300)+"1", strings.Repeat("A : ", 150)+"1", strings.Repeat("A - ", 150)+"1", strings.Repeat("1 ", 100000))
}

// linesOfNodes has lines of that many nodes, each grown in another way.
func linesOfNodes(count int) []string {
	pairs := (count - 1) / 2
	last := []string{"1", "- 1"}[(count-1)%2]
	return []string{
		strings.Repeat("- ", count-1) + "1",
		strings.Repeat("A : ", count-1) + "1 2 3",
		strings.Repeat("+ / ", count-1) + "Z",
		strings.Repeat("A - ", pairs) + last,
		strings.Repeat("2 3 o * ", pairs) + last,
		strings.Repeat("( A ) - ( ", pairs) + last + strings.Repeat(" )", pairs),
		strings.Repeat("( ", pairs) + last + strings.Repeat(" ) - A", pairs),
		strings.Repeat("( ", pairs) + last + strings.Repeat(" + . * A )", pairs),
		"( " + strings.Repeat("- ", count-1) + "1 )",
	}
}

func TestParseNodesUpToTheLimit(t *testing.T) {
	for count := 1; count <= 70; count++ {
		for _, line := range linesOfNodes(count) {
			if len(strings.Fields(line)) > 299 {
				t.Fatal("the test itself has a line too long:", line)
			}
			tree, code := impl.Parse(wordTokens(t, line))
			switch {
			case count <= 60 && (code != impl.ErNone || len(tree.Nodes) != count || !impl.TreeOk(tree)):
				t.Error("of", count, "nodes:", line, code, len(tree.Nodes))
			case count > 60 && (code != impl.ErLimit || len(tree.Nodes) != 0):
				t.Error("of", count, "nodes:", line, code, len(tree.Nodes))
			}
			wantNoTree(t, impl.ErSyntax, line+" )", line+" -", line+" :", "( "+line, "/ "+line, ": "+line)
		}
	}
}

func TestParseDeepBrackets(t *testing.T) {
	for _, deep := range []int{1, 2, 60, 61, 100, 148, 149} {
		open, shut := strings.Repeat("( ", deep), strings.Repeat(" )", deep)
		wantTree(t, open+"1"+shut, numNode(1))
		wantTree(t, open+"1 2"+shut, numNode(1, 2))
		wantTree(t, open+"- A"+shut, nameNode('A'), oneNode(plainFun('-'), 0))
		wantNoTree(t, impl.ErSyntax, open+shut, open+"1"+shut+" )", "( "+open+"1"+shut, open+"-"+shut, open, shut, shut+open)
	}
	wantNoTree(t, impl.ErSyntax, strings.Repeat("( ", 150)+strings.Repeat(") ", 150), strings.Repeat("( ", 300), strings.Repeat(") ", 300))
	wantNoTree(t, impl.ErBad, strings.Repeat("( ", 150)+"1"+strings.Repeat(" )", 150), strings.Repeat("( ", 301))
	half := strings.Repeat("( ", 73)
	wantTree(t, half+"A : 1"+strings.Repeat(" )", 73)+" + "+half+"B"+strings.Repeat(" )", 73),
		nameNode('B'), numNode(1), setNode('A', 1), twoNode(plainFun('+'), 2, 0))
}

// A token that is not right counts wherever it stands, ahead of what else is
// wrong; and that it is no line counts ahead of how many nodes it would have.
func TestParseWhichCodeIsFirst(t *testing.T) {
	long := strings.Repeat("- ", 80) + "1"
	for _, text := range []string{"", "1", "A : 1 + 2", "( 1", "+", ") (", long, long + " )", "A 1"} {
		right := wordTokens(t, text)
		for _, wrong := range wrongTokens() {
			wantParse(t, slices.Concat(right, []impl.Token{wrong}), impl.Tree{}, impl.ErBad)
			wantParse(t, slices.Concat([]impl.Token{wrong}, right), impl.Tree{}, impl.ErBad)
		}
		for at := range right {
			wantParse(t, slices.Insert(slices.Clone(right), at, impl.Token{Kind: impl.TkOpen, Value: 1}), impl.Tree{}, impl.ErBad)
		}
		wantParse(t, slices.Concat(right, slices.Repeat([]impl.Token{closing}, 301-len(right))), impl.Tree{}, impl.ErBad)
	}
	wantNoTree(t, impl.ErLimit, long, "( "+long+" )", "A : "+long)
	wantNoTree(t, impl.ErSyntax, long+" )", "( "+long, long+" A", "1 "+long+" /", ": "+long, strings.Repeat("- ", 300), long+" + "+strings.Repeat("- ", 90))
}

// A reading is the nodes of some tokens, up to the place where it ends.
type reading struct {
	nodes []impl.Expr
	end   int
}

type funReading struct {
	fun impl.Fun
	end int
}

// A slowReader knows all ways to read each place, by the words of the document
// and in their order, and the readings of a line that it found already.
type slowReader struct {
	list  []impl.Token
	lines map[int][]reading
}

func (r slowReader) is(i int, kind int, values string) bool {
	return i < len(r.list) && r.list[i].Kind == kind && (values == "" || isByteOf(values, r.list[i].Value))
}

// moved is nodes that stand so many places further on.
func moved(nodes []impl.Expr, by int) []impl.Expr {
	list := slices.Clone(nodes)
	for i, x := range list {
		switch x.Kind {
		case impl.ExSet, impl.ExOne:
			list[i].B += by
		case impl.ExTwo:
			list[i].A += by
			list[i].B += by
		}
	}
	return list
}

func taking(nodes []impl.Expr, last impl.Expr) []impl.Expr {
	return append(slices.Clone(nodes), last)
}

func pairing(right []impl.Expr, left []impl.Expr, f impl.Fun) []impl.Expr {
	both := slices.Concat(right, moved(left, len(right)))
	return append(both, twoNode(f, len(both)-1, len(right)-1))
}

func (r slowReader) functionsAt(i int) []funReading {
	var all []funReading
	if r.is(i, impl.TkSign, "o") && r.is(i+1, impl.TkSign, "") {
		all = append(all, funReading{impl.Fun{Sign: r.list[i+1].Value, Oper: 'o'}, i + 2})
	}
	if r.is(i, impl.TkSign, "") && r.is(i+1, impl.TkSign, `/\`) {
		all = append(all, funReading{impl.Fun{Sign: r.list[i].Value, Oper: r.list[i+1].Value}, i + 2})
	}
	if r.is(i, impl.TkSign, "") && r.is(i+1, impl.TkSign, ".") && r.is(i+2, impl.TkSign, "") {
		all = append(all, funReading{impl.Fun{Sign: r.list[i].Value, Oper: '.', With: r.list[i+2].Value}, i + 3})
	}
	if r.is(i, impl.TkSign, "") {
		all = append(all, funReading{impl.Fun{Sign: r.list[i].Value}, i + 1})
	}
	return all
}

func (r slowReader) operandsAt(i int) []reading {
	var all []reading
	end := i
	var nums []int
	for ; r.is(end, impl.TkNum, ""); end++ {
		nums = append(nums, r.list[end].Value)
	}
	if end > i {
		all = append(all, reading{[]impl.Expr{numNode(nums...)}, end})
	}
	if r.is(i, impl.TkName, "") {
		all = append(all, reading{[]impl.Expr{{Kind: impl.ExName, A: r.list[i].Value}}, i + 1})
	}
	if r.is(i, impl.TkOpen, "") {
		for _, line := range r.linesAt(i + 1) {
			if r.is(line.end, impl.TkClose, "") {
				all = append(all, reading{line.nodes, line.end + 1})
			}
		}
	}
	return all
}

// linesAt has of all readings that end at one place just the first.
func (r slowReader) linesAt(i int) []reading {
	if known, is := r.lines[i]; is {
		return known
	}
	var all []reading
	add := func(nodes []impl.Expr, end int) {
		if !slices.ContainsFunc(all, func(x reading) bool { return x.end == end }) {
			all = append(all, reading{nodes, end})
		}
	}
	if r.is(i, impl.TkName, "") && r.is(i+1, impl.TkSet, "") {
		for _, line := range r.linesAt(i + 2) {
			add(taking(line.nodes, impl.Expr{Kind: impl.ExSet, A: r.list[i].Value, B: len(line.nodes) - 1}), line.end)
		}
	}
	for _, left := range r.operandsAt(i) {
		for _, f := range r.functionsAt(left.end) {
			if wantedFunTwo(f.fun) {
				for _, line := range r.linesAt(f.end) {
					add(pairing(line.nodes, left.nodes, f.fun), line.end)
				}
			}
		}
		add(left.nodes, left.end)
	}
	for _, f := range r.functionsAt(i) {
		if wantedFunOne(f.fun) {
			for _, line := range r.linesAt(f.end) {
				add(taking(line.nodes, oneNode(f.fun, len(line.nodes)-1)), line.end)
			}
		}
	}
	r.lines[i] = all
	return all
}

func wantedParse(list []impl.Token) (impl.Tree, int) {
	for _, line := range (slowReader{list, map[int][]reading{}}).linesAt(0) {
		if line.end == len(list) && len(line.nodes) > 60 {
			return impl.Tree{}, impl.ErLimit
		}
		if line.end == len(list) {
			return impl.Tree{Nodes: line.nodes}, impl.ErNone
		}
	}
	return impl.Tree{}, impl.ErSyntax
}

func wantParseAsModel(t *testing.T, list []impl.Token) int {
	t.Helper()
	tree, code := wantedParse(list)
	wantParse(t, list, tree, code)
	return code
}

// All short lists of tokens that change how their neighbours are read.
func TestParseEveryShortList(t *testing.T) {
	for _, c := range []struct {
		tokens string
		long   int
	}{{"1 A + ~ % i t r / \\ . o ( ) : Z", 4}, {"1 A - ~ / . o ( ) :", 5}, {"1 A + ( ) :", 7}, {"A * / . o )", 7}} {
		choice := wordTokens(t, c.tokens)
		numbers := make([]int, len(choice))
		for i := range choice {
			numbers[i] = i
		}
		list := make([]impl.Token, c.long)
		lines := 0
		for long := range c.long + 1 {
			everyList(numbers, long, func(some []int) {
				for i, x := range some {
					list[i] = choice[x]
				}
				if wantParseAsModel(t, list[:long]) == impl.ErNone {
					lines++
				}
			})
		}
		if lines < 100 {
			t.Error("the test itself finds only", lines, "lines of", c.tokens)
		}
	}
}

// Every three signs in a row, with an array on the right and on both sides.
func TestParseEveryThreeSigns(t *testing.T) {
	for _, a := range []byte(everySign) {
		for _, b := range []byte(everySign) {
			wantParseAsModel(t, []impl.Token{signToken(a), signToken(b), numToken(1)})
			wantParseAsModel(t, []impl.Token{nameToken('A'), signToken(a), signToken(b), numToken(1)})
			for _, c := range []byte(everySign) {
				wantParseAsModel(t, []impl.Token{signToken(a), signToken(b), signToken(c), numToken(1)})
				wantParseAsModel(t, []impl.Token{nameToken('A'), signToken(a), signToken(b), signToken(c), numToken(1)})
			}
		}
	}
}

// A grown tree has its nodes, the line that it is written as, and another line
// of it with needless brackets, which may stand around all of it.
type grown struct {
	nodes       []impl.Expr
	plain       []impl.Token
	loose       []impl.Token
	isBracketed bool
}

type garden struct {
	draw func(n int) int
	ones []impl.Fun
	twos []impl.Fun
}

func newGarden(seed uint32) garden {
	g := garden{draw: drawing(seed)}
	for _, f := range everyFun() {
		if wantedFunOne(f) {
			g.ones = append(g.ones, f)
		}
		// Each way as often as the others, though inner ones are most.
		if wantedFunTwo(f) && (f.Oper != '.' || g.draw(5) == 0) {
			g.twos = append(g.twos, f)
		}
	}
	return g
}

func inBrackets(list []impl.Token) []impl.Token {
	return slices.Concat([]impl.Token{opening}, list, []impl.Token{closing})
}

func funList(f impl.Fun) []impl.Token {
	var list []impl.Token
	for _, word := range strings.Fields(funWords(f)) {
		list = append(list, signToken(word[0]))
	}
	return list
}

func (g garden) leaf() grown {
	if g.draw(3) == 0 {
		letter := byte('A' + g.draw(26))
		list := []impl.Token{nameToken(letter)}
		return grown{nodes: []impl.Expr{nameNode(letter)}, plain: list, loose: list}
	}
	var nums []int
	var list []impl.Token
	for range 1 + g.draw(3) {
		nums = append(nums, g.draw(2001)-1000)
		list = append(list, numToken(nums[len(nums)-1]))
	}
	return grown{nodes: []impl.Expr{numNode(nums...)}, plain: list, loose: list}
}

// grow has count nodes.
func (g garden) grow(count int) grown {
	var x grown
	switch {
	case count == 1:
		x = g.leaf()
	case count == 2 || g.draw(3) == 0:
		x = g.stem(g.grow(count - 1))
	default:
		left := 1 + g.draw(count-2)
		x = g.fork(g.grow(left), g.grow(count-1-left))
	}
	if g.draw(8) == 0 {
		x.loose, x.isBracketed = inBrackets(x.loose), true
	}
	return x
}

func (g garden) stem(right grown) grown {
	head, last := []impl.Token{nameToken('D'), setting}, setNode('D', len(right.nodes)-1)
	if g.draw(3) > 0 {
		f := g.ones[g.draw(len(g.ones))]
		head, last = funList(f), oneNode(f, len(right.nodes)-1)
	}
	return grown{nodes: taking(right.nodes, last), plain: slices.Concat(head, right.plain), loose: slices.Concat(head, right.loose)}
}

func (g garden) fork(left grown, right grown) grown {
	f := g.twos[g.draw(len(g.twos))]
	if len(left.nodes) > 1 {
		left.plain = inBrackets(left.plain)
		if !left.isBracketed {
			left.loose = inBrackets(left.loose)
		}
	}
	return grown{
		nodes: pairing(right.nodes, left.nodes, f),
		plain: slices.Concat(left.plain, funList(f), right.plain),
		loose: slices.Concat(left.loose, funList(f), right.loose),
	}
}

// grownTrees are drawn by a fixed rule: trees of up to MaxNodes nodes, each
// number of nodes as often.
func grownTrees(count int) []grown {
	g := newGarden(9)
	var list []grown
	for i := range count {
		if x := g.grow(1 + i%60); len(x.loose) <= 298 {
			list = append(list, x)
		}
	}
	return list
}

// Promise 9: read from its text a tree is as it was, in brackets too, however
// many of them are needless.
func TestTreesAreReadAsTheyWere(t *testing.T) {
	kinds := map[int]int{}
	lexed := 0
	for _, x := range grownTrees(3000) {
		tree := treeOf(x.nodes...)
		text := impl.TokenText(x.plain)
		if !impl.TreeOk(tree) || impl.TreeText(tree) != text {
			t.Errorf("TreeText(%v) = %q (TreeOk %t); want %q", tree, impl.TreeText(tree), impl.TreeOk(tree), text)
		}
		for _, list := range [][]impl.Token{x.plain, inBrackets(x.plain), x.loose, inBrackets(x.loose)} {
			wantParse(t, list, tree, impl.ErNone)
		}
		wantParse(t, wordTokens(t, impl.TreeText(tree)), tree, impl.ErNone)
		if list, code, _ := impl.Lex(text); len(text) <= impl.MaxLine && (code != impl.ErNone || !slices.Equal(list, x.plain)) {
			t.Errorf("Lex(%q) = %v, %d", text, list, code)
		} else if len(text) <= impl.MaxLine {
			wantParse(t, list, tree, impl.ErNone)
			lexed++
		}
		for _, node := range x.nodes {
			kinds[node.Kind]++
		}
	}
	if lexed < 1000 || len(kinds) != 5 || slices.Min([]int{kinds[1], kinds[2], kinds[3], kinds[4], kinds[5]}) < 1000 {
		t.Error("the test itself hardly asks for all:", lexed, kinds)
	}
}

// Lists close to a line: a token left out, put in, turned or changed with
// another one, told apart by the slow reader.
func TestParseSpoiledLines(t *testing.T) {
	all := everyToken()
	codes := map[int]int{}
	draw := drawing(10)
	for _, x := range grownTrees(1500) {
		list := slices.Clone(x.loose)
		for range 3 {
			at, other := draw(len(list)), draw(len(list))
			switch draw(4) {
			case 0:
				list = slices.Delete(list, at, at+1)
			case 1:
				list = slices.Insert(list, at, all[draw(len(all))])
			case 2:
				list[at] = all[draw(len(all))]
			default:
				list[at], list[other] = list[other], list[at]
			}
			if len(list) == 0 || len(list) > 300 {
				break
			}
			codes[wantParseAsModel(t, list)]++
		}
	}
	if codes[impl.ErNone] < 100 || codes[impl.ErSyntax] < 100 {
		t.Error("the test itself hardly asks for both:", codes)
	}
}

// Lines of more than MaxNodes nodes, whole and spoiled at each place.
func TestParseLongLinesAsModel(t *testing.T) {
	g := newGarden(11)
	codes := map[int]int{}
	for count := 50; count <= 75; count++ {
		x := g.grow(count)
		if len(x.loose) > 300 {
			continue
		}
		codes[wantParseAsModel(t, x.loose)]++
		for at := range x.loose {
			codes[wantParseAsModel(t, slices.Delete(slices.Clone(x.loose), at, at+1))]++
		}
	}
	if codes[impl.ErNone] < 10 || codes[impl.ErSyntax] < 100 || codes[impl.ErLimit] < 10 {
		t.Error("the test itself hardly asks for all:", codes)
	}
}
