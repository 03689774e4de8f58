package tests

import (
	"fmt"
	"math"
	"math/big"
	"regexp"
	"slices"
	"strings"
	"testing"

	"loop.example/g00182/impl"
)

const everySign = `+-*%|&^=<>~i#,tdrz@?g$e/\.o`

func numToken(x int) impl.Token { return impl.Token{Kind: impl.TkNum, Value: x} }

func nameToken(letter byte) impl.Token { return impl.Token{Kind: impl.TkName, Value: int(letter) - 65} }

func signToken(s byte) impl.Token { return impl.Token{Kind: impl.TkSign, Value: int(s)} }

var (
	opening = impl.Token{Kind: impl.TkOpen}
	closing = impl.Token{Kind: impl.TkClose}
	setting = impl.Token{Kind: impl.TkSet}
)

// soleTokens has every token that is written as one byte that is no digit.
func soleTokens() map[byte]impl.Token {
	known := map[byte]impl.Token{'(': opening, ')': closing, ':': setting}
	for letter := byte('A'); letter <= 'Z'; letter++ {
		known[letter] = nameToken(letter)
	}
	for _, s := range []byte(everySign) {
		known[s] = signToken(s)
	}
	return known
}

// everyToken has each token of each kind, and of the numbers those at the edges.
func everyToken() []impl.Token {
	list := []impl.Token{opening, closing, setting}
	for _, s := range []byte(everySign) {
		list = append(list, signToken(s))
	}
	for letter := range 26 {
		list = append(list, nameToken(byte('A'+letter)))
	}
	for _, x := range rightNumbers() {
		list = append(list, numToken(x))
	}
	return list
}

// wrongTokens breaks a token of each kind in each way that there is.
func wrongTokens() []impl.Token {
	var list []impl.Token
	for _, x := range wrongNumbers() {
		list = append(list, numToken(x))
	}
	for _, x := range []int{-1, 26, -26, 'A', 'Z', 'a', 1 << 8, 1 << 32, 1<<32 + 3, -1 << 32, math.MaxInt, math.MinInt} {
		list = append(list, impl.Token{Kind: impl.TkName, Value: x})
	}
	for _, x := range append(wrongSigns(everySign), '_', '(', ')', ':', ' ', 'x', 'A', '0') {
		list = append(list, impl.Token{Kind: impl.TkSign, Value: x})
	}
	for _, kind := range []int{impl.TkOpen, impl.TkClose, impl.TkSet} {
		for _, x := range []int{1, -1, 2, '(', ')', ':', 1 << 8, 1 << 32, math.MaxInt, math.MinInt} {
			list = append(list, impl.Token{Kind: kind, Value: x})
		}
	}
	for _, kind := range []int{0, 7, -1, 8, -6, 1<<8 + 1, 1<<32 + 1, 1<<32 + 4, math.MaxInt, math.MinInt, math.MinInt + 1} {
		for _, x := range []int{0, 1, 25, '+', top} {
			list = append(list, impl.Token{Kind: kind, Value: x})
		}
	}
	return list
}

func TestTokenConstants(t *testing.T) {
	kinds := []int{impl.TkNum, impl.TkName, impl.TkSign, impl.TkOpen, impl.TkClose, impl.TkSet}
	if !slices.Equal(kinds, []int{1, 2, 3, 4, 5, 6}) || impl.MaxLine != 300 {
		t.Error("the kinds are", kinds, "and MaxLine is", impl.MaxLine)
	}
	if len(everySign) != 27 {
		t.Error("the test itself knows of", len(everySign), "signs")
	}
}

func TestTokenOk(t *testing.T) {
	for _, x := range everyToken() {
		if !impl.TokenOk(x) {
			t.Error("right, but refused:", x)
		}
	}
	for _, x := range wrongTokens() {
		if impl.TokenOk(x) {
			t.Error("not right, but accepted:", x)
		}
	}
}

// Which Values are right, counted off for each Kind around all of them.
func TestTokenOkOfEveryByte(t *testing.T) {
	count := map[int]int{}
	for kind := -3; kind <= 10; kind++ {
		for x := -300; x <= 300; x++ {
			if impl.TokenOk(impl.Token{Kind: kind, Value: x}) {
				count[kind]++
			}
		}
	}
	want := map[int]int{impl.TkNum: 601, impl.TkName: 26, impl.TkSign: 27, impl.TkOpen: 1, impl.TkClose: 1, impl.TkSet: 1}
	if fmt.Sprint(count) != fmt.Sprint(want) {
		t.Error("so many are right by kind:", count, "want", want)
	}
}

func wantLex(t *testing.T, text string, want ...impl.Token) {
	t.Helper()
	if list, code, place := impl.Lex(text); !slices.Equal(list, want) || code != impl.ErNone || place != len(text) {
		t.Errorf("Lex(%q) = %v, %d, %d; want %v, 0, %d", text, list, code, place, want, len(text))
	}
}

func wantMistake(t *testing.T, text string, want int, at int) {
	t.Helper()
	if list, code, place := impl.Lex(text); len(list) != 0 || code != want || place != at {
		t.Errorf("Lex(%q) = %v, %d, %d; want nothing, %d, %d", text, list, code, place, want, at)
	}
}

var (
	someBlanks   = regexp.MustCompile(`^ +`)
	someNumber   = regexp.MustCompile(`^_?[0-9]+`)
	knownToLexer = soleTokens()
)

// wantedLex bites off one piece after the other, and reckons with numbers of
// any length.
func wantedLex(text string) ([]impl.Token, int, int) {
	if len(text) > 300 {
		return nil, impl.ErLimit, 0
	}
	var list []impl.Token
	for rest := text; rest != ""; {
		place := len(text) - len(rest)
		word := someNumber.FindString(rest)
		one, known := knownToLexer[rest[0]]
		switch {
		case rest[0] == ' ':
			word = someBlanks.FindString(rest)
		case word != "":
			x, _ := new(big.Int).SetString(strings.Replace(word, "_", "-", 1), 10)
			if x.CmpAbs(big.NewInt(top)) > 0 {
				return nil, impl.ErLimit, place
			}
			list = append(list, numToken(int(x.Int64())))
		case known:
			word = rest[:1]
			list = append(list, one)
		default:
			return nil, impl.ErSyntax, place
		}
		rest = rest[len(word):]
	}
	return list, impl.ErNone, len(text)
}

func wantLexAsModel(t *testing.T, text string) {
	t.Helper()
	want, wantCode, wantPlace := wantedLex(text)
	if list, code, place := impl.Lex(text); !slices.Equal(list, want) || code != wantCode || place != wantPlace {
		t.Errorf("Lex(%q) = %v, %d, %d; want %v, %d, %d", text, list, code, place, want, wantCode, wantPlace)
	}
}

func TestLexEachAlone(t *testing.T) {
	for text, one := range soleTokens() {
		wantLex(t, string(rune(text)), one)
		wantLex(t, "  "+string(rune(text))+"   ", one)
		wantLex(t, string(rune(text))+string(rune(text)), one, one)
	}
	for x := range 10 {
		wantLex(t, fmt.Sprint(x), numToken(x))
		wantLex(t, "_"+fmt.Sprint(x), numToken(-x))
		wantLex(t, " _"+fmt.Sprint(x)+"  ", numToken(-x))
	}
}

func TestLexOrdinary(t *testing.T) {
	wantLex(t, "A:_12+/ (i 3)", nameToken('A'), setting, numToken(-12), signToken('+'), signToken('/'), opening, signToken('i'), numToken(3), closing)
	wantLex(t, "1 2 3", numToken(1), numToken(2), numToken(3))
	wantLex(t, "1 _2 30", numToken(1), numToken(-2), numToken(30))
	wantLex(t, "B-C", nameToken('B'), signToken('-'), nameToken('C'))
	wantLex(t, "3-4", numToken(3), signToken('-'), numToken(4))
	wantLex(t, "-4", signToken('-'), numToken(4))
	wantLex(t, "- _4", signToken('-'), numToken(-4))
	wantLex(t, "-_4", signToken('-'), numToken(-4))
	wantLex(t, "2 3#i6", numToken(2), numToken(3), signToken('#'), signToken('i'), numToken(6))
	wantLex(t, `X+.*Y`, nameToken('X'), signToken('+'), signToken('.'), signToken('*'), nameToken('Y'))
	wantLex(t, `o*\A`, signToken('o'), signToken('*'), signToken('\\'), nameToken('A'))
	wantLex(t, ")):((", closing, closing, setting, opening, opening)
	wantLex(t, "1.5", numToken(1), signToken('.'), numToken(5))
	wantLex(t, "1e3", numToken(1), signToken('e'), numToken(3))
	wantLex(t, "1,2", numToken(1), signToken(','), numToken(2))
	wantLex(t, "0d1", numToken(0), signToken('d'), numToken(1))
	wantLex(t, "ABZ", nameToken('A'), nameToken('B'), nameToken('Z'))
	wantLex(t, "idi", signToken('i'), signToken('d'), signToken('i'))
}

// All signs in one line, and all letters, as close as they stand and apart.
func TestLexAllInALine(t *testing.T) {
	for _, text := range []string{everySign, "ABCDEFGHIJKLMNOPQRSTUVWXYZ", "(:)", everySign + "ABCDEFGHIJKLMNOPQRSTUVWXYZ(:)"} {
		var want []impl.Token
		for _, b := range []byte(text) {
			want = append(want, soleTokens()[b])
		}
		wantLex(t, text, want...)
		apart := strings.Join(strings.Split(text, ""), " ")
		wantLex(t, apart, want...)
		wantLex(t, "   "+strings.ReplaceAll(apart, " ", "   ")+"  ", want...)
	}
}

func TestLexEmptyAndBlanks(t *testing.T) {
	for long := range 301 {
		wantLex(t, strings.Repeat(" ", long))
	}
	wantMistake(t, strings.Repeat(" ", 301), impl.ErLimit, 0)
}

// Other bytes that leave room on a page are no blanks.
func TestLexOnlyOneByteIsABlank(t *testing.T) {
	for _, other := range []string{"\t", "\n", "\r", "\v", "\f", "\x00", "\x1f", "\x7f", "\u00a0", "\u2003", "\u3000", "\x85", "\xa0"} {
		wantMistake(t, other, impl.ErSyntax, 0)
		wantMistake(t, "1"+other+"2", impl.ErSyntax, 1)
		wantMistake(t, " A "+other, impl.ErSyntax, 3)
	}
}

// A token right behind another one is read as it is with blanks between; two
// numbers come close only where the second one is below nought.
func TestLexPairs(t *testing.T) {
	texts := []string{"7", "_7", "0", "_0", "10", "_1000000000000", "1000000000000"}
	for b := range soleTokens() {
		texts = append(texts, string(rune(b)))
	}
	for _, a := range texts {
		for _, b := range texts {
			first, _, _ := impl.Lex(a)
			second, _, _ := impl.Lex(b)
			want := slices.Concat(first, second)
			if len(want) != 2 {
				t.Fatal("the test itself knows no token:", a, b)
			}
			for _, between := range []string{" ", "  ", "       "} {
				wantLex(t, a+between+b, want...)
				wantLex(t, between+a+between+b+between, want...)
			}
			if first[0].Kind == impl.TkNum && b[0] >= '0' && b[0] <= '9' {
				wantLexAsModel(t, a+b)
				continue
			}
			wantLex(t, a+b, want...)
			wantLex(t, " "+a+b+" ", want...)
		}
	}
}

func TestLexNumbersSideBySide(t *testing.T) {
	wantLex(t, "1_2", numToken(1), numToken(-2))
	wantLex(t, "12_34_5", numToken(12), numToken(-34), numToken(-5))
	wantLex(t, "_1_2_3", numToken(-1), numToken(-2), numToken(-3))
	wantLex(t, "A1B2", nameToken('A'), numToken(1), nameToken('B'), numToken(2))
	wantLex(t, "1A2B", numToken(1), nameToken('A'), numToken(2), nameToken('B'))
	wantLex(t, "(1)2", opening, numToken(1), closing, numToken(2))
	wantLex(t, "A_1:_2", nameToken('A'), numToken(-1), setting, numToken(-2))
	wantLex(t, "1(_2)3", numToken(1), opening, numToken(-2), closing, numToken(3))
	wantLex(t, "1 2", numToken(1), numToken(2))
	wantLex(t, "12", numToken(12))
}

func TestLexNumbers(t *testing.T) {
	for _, x := range rightNumbers() {
		if x >= 0 {
			wantLex(t, fmt.Sprint(x), numToken(x))
			wantLex(t, "_"+fmt.Sprint(x), numToken(-x))
			wantLex(t, "00"+fmt.Sprint(x), numToken(x))
			wantLex(t, "_00"+fmt.Sprint(x), numToken(-x))
			wantLex(t, " "+fmt.Sprint(x)+"A", numToken(x), nameToken('A'))
		}
	}
	for x := range 1200 {
		wantLex(t, fmt.Sprint(x), numToken(x))
		wantLex(t, "_"+fmt.Sprint(x)+" ", numToken(-x))
	}
}

func TestLexNumbersAtTheLimit(t *testing.T) {
	wantLex(t, "1000000000000", numToken(top))
	wantLex(t, "_1000000000000", numToken(-top))
	wantLex(t, "999999999999", numToken(top-1))
	wantLex(t, "_999999999999", numToken(1-top))
	for _, digits := range []string{"1000000000001", "1000000000002", "1000000000010", "1100000000000", "2000000000000", "9999999999999",
		"10000000000000", "10000000000001", "01000000000001", "9223372036854775807", "9223372036854775808", "18446744073709551615",
		"18446744073709551616", "18446744073709551617", "18446744074709551616", "340282366920938463463374607431768211456",
		"340282366920938463463374607431768211457", "1" + strings.Repeat("0", 64), "1" + strings.Repeat("0", 298), strings.Repeat("9", 299)} {
		wantMistake(t, digits, impl.ErLimit, 0)
		wantMistake(t, "_"+digits, impl.ErLimit, 0)
		if len(digits) < 200 {
			wantMistake(t, "  "+digits+" ", impl.ErLimit, 2)
			wantMistake(t, "A:_"+digits+")", impl.ErLimit, 2)
			wantMistake(t, "5"+"_"+digits, impl.ErLimit, 1)
			wantMistake(t, "5 6+"+digits+" 7", impl.ErLimit, 4)
		}
	}
	wantMistake(t, strings.Repeat("1", 300), impl.ErLimit, 0)
}

// However many noughts stand ahead, the number is the same.
func TestLexNeedlessNoughts(t *testing.T) {
	for _, x := range []int{0, 1, 7, 10, 100, 999999999999, top} {
		digits := fmt.Sprint(x)
		for many := 0; many+len(digits) <= 299; many++ {
			text := strings.Repeat("0", many) + digits
			wantLex(t, text, numToken(x))
			wantLex(t, "_"+text, numToken(-x))
		}
		wantLex(t, strings.Repeat("0", 300-len(digits))+digits, numToken(x))
	}
	for many := range 280 {
		wantMistake(t, strings.Repeat("0", many)+"1000000000001", impl.ErLimit, 0)
		wantMistake(t, " _"+strings.Repeat("0", many)+"1000000000001", impl.ErLimit, 1)
	}
}

func TestLexBelowNought(t *testing.T) {
	wantLex(t, "_0", numToken(0))
	wantLex(t, "_00", numToken(0))
	wantLex(t, "_0_0", numToken(0), numToken(0))
	wantLex(t, "_1", numToken(-1))
	wantMistake(t, "_", impl.ErSyntax, 0)
	wantMistake(t, "__", impl.ErSyntax, 0)
	wantMistake(t, "__1", impl.ErSyntax, 0)
	wantMistake(t, "_1_", impl.ErSyntax, 2)
	wantMistake(t, "_1__2", impl.ErSyntax, 2)
	wantMistake(t, "1 _ 2", impl.ErSyntax, 2)
	wantMistake(t, "_ 1", impl.ErSyntax, 0)
	wantMistake(t, "   _", impl.ErSyntax, 3)
	wantMistake(t, "3_", impl.ErSyntax, 1)
	wantMistake(t, "3 4 _ ", impl.ErSyntax, 4)
	wantMistake(t, strings.Repeat("A", 299)+"_", impl.ErSyntax, 299)
}

// Only a digit makes a number of it: every other byte behind it leaves the
// mistake at its place, not at that byte.
func TestLexEveryByteBehindBelow(t *testing.T) {
	for b := range 256 {
		text := "_" + string([]byte{byte(b)})
		if b >= '0' && b <= '9' {
			wantLex(t, text, numToken('0'-b))
			continue
		}
		wantMistake(t, text, impl.ErSyntax, 0)
		wantMistake(t, "A "+text+"5", impl.ErSyntax, 2)
	}
}

func TestLexLength(t *testing.T) {
	for _, piece := range []string{"A", "+", "(", ":", "7", "0", "i", " "} {
		wantLexAsModel(t, strings.Repeat(piece, 299))
		wantLexAsModel(t, strings.Repeat(piece, 300))
		wantMistake(t, strings.Repeat(piece, 301), impl.ErLimit, 0)
	}
	list, code, place := impl.Lex(strings.Repeat("Z", 300))
	if len(list) != 300 || code != impl.ErNone || place != 300 || slices.ContainsFunc(list, func(x impl.Token) bool { return x != nameToken('Z') }) {
		t.Error("of MaxLine letters come", len(list), code, place)
	}
	for _, long := range []int{301, 302, 600, 100000} {
		wantMistake(t, strings.Repeat("1 ", long)[:long], impl.ErLimit, 0)
	}
}

// That a text is too long counts ahead of whatever else is wrong, and at place
// 0 wherever that is; one that is just as long as it may be is looked at.
func TestLexLengthAheadOfAll(t *testing.T) {
	for _, wrong := range []string{"x", "_", "1000000000001", ";", "\xff", "é", "_ "} {
		for _, at := range []int{0, 1, 100, 300 - len(wrong)} {
			text := strings.Repeat("A", at) + wrong + strings.Repeat("+", 300-len(wrong)-at)
			if _, code, place := wantedLex(text); code == impl.ErNone || place != at {
				t.Fatal("the test itself knows no mistake:", text)
			}
			wantLexAsModel(t, text)
			wantMistake(t, text+" ", impl.ErLimit, 0)
			wantMistake(t, " "+text, impl.ErLimit, 0)
		}
	}
	wantMistake(t, string(make([]byte, 301)), impl.ErLimit, 0)
	wantMistake(t, string(make([]byte, 300)), impl.ErSyntax, 0)
}

// The length is counted in bytes, not in runes.
func TestLexLengthInBytes(t *testing.T) {
	wantMistake(t, strings.Repeat("é", 150), impl.ErSyntax, 0)
	wantMistake(t, strings.Repeat("é", 151), impl.ErLimit, 0)
	wantMistake(t, strings.Repeat(" ", 298)+"é", impl.ErSyntax, 298)
	wantMistake(t, strings.Repeat(" ", 299)+"é", impl.ErLimit, 0)
	wantMistake(t, strings.Repeat(" ", 296)+"😀", impl.ErSyntax, 296)
	wantMistake(t, strings.Repeat(" ", 297)+"😀", impl.ErLimit, 0)
}

func TestLexWhichMistakeIsFirst(t *testing.T) {
	wantMistake(t, "1000000000001 x", impl.ErLimit, 0)
	wantMistake(t, "1000000000001x", impl.ErLimit, 0)
	wantMistake(t, "x 1000000000001", impl.ErSyntax, 0)
	wantMistake(t, "x1000000000001", impl.ErSyntax, 0)
	wantMistake(t, "A x y", impl.ErSyntax, 2)
	wantMistake(t, "A 1000000000001 2000000000000", impl.ErLimit, 2)
	wantMistake(t, "_1000000000001 _", impl.ErLimit, 0)
	wantMistake(t, "_1000000000001_", impl.ErLimit, 0)
	wantMistake(t, "_ 1000000000001", impl.ErSyntax, 0)
	wantMistake(t, "__1000000000001", impl.ErSyntax, 0)
	wantMistake(t, "1 _x", impl.ErSyntax, 2)
	wantMistake(t, "1 x_", impl.ErSyntax, 2)
	wantMistake(t, "1;", impl.ErSyntax, 1)
	wantMistake(t, "12;34!", impl.ErSyntax, 2)
	wantMistake(t, "1000000000000 1000000000001\xff", impl.ErLimit, 14)
	wantMistake(t, "1000000000000\xff1000000000001", impl.ErSyntax, 13)
	wantMistake(t, "9999999999999é", impl.ErLimit, 0)
	wantMistake(t, "é9999999999999", impl.ErSyntax, 0)
}

// Each byte of which no token begins is told with its place, wherever it
// stands; each of the others is none.
func TestLexEveryByte(t *testing.T) {
	wrong := 0
	for b := range 256 {
		one := string([]byte{byte(b)})
		_, known := soleTokens()[byte(b)]
		if known || b == ' ' || b >= '0' && b <= '9' {
			if _, code, place := impl.Lex(one); code != impl.ErNone || place != 1 {
				t.Error("refused:", b, code, place)
			}
			continue
		}
		wrong++
		for _, ahead := range []string{"", " ", "A", "12", "_3", "(A:1) ", "1000000000000", strings.Repeat("+", 150), strings.Repeat(" ", 299)} {
			wantMistake(t, ahead+one, impl.ErSyntax, len(ahead))
			if len(ahead) < 200 && b != '_' {
				wantMistake(t, ahead+one+"1 +", impl.ErSyntax, len(ahead))
				wantMistake(t, ahead+one+one, impl.ErSyntax, len(ahead))
			}
		}
	}
	if wrong != 256-26-27-3-1-10 {
		t.Error("so many bytes begin no token:", wrong)
	}
}

// Runes that look like tokens, or do when all but their lowest bits are cut
// away, are none; nor are bytes that are no UTF-8.
func TestLexRunes(t *testing.T) {
	texts := []string{"é", "ß", "А", "Ａ", "１", "١", "९", "＋", "−", "×", "÷", "⍳", "（", "：", "＿", "\u00b2", "\u00bd", "\u2028", "\ufeff", "\ufffd", "😀", "𝟘",
		"\xff", "\xfe", "\x80", "\xbf", "\xc0", "\xc3", "\xe2\x82", "\xf0\x9f\x98", "\xed\xa0\x80", "\xc0\xb1", "\xe0\x80\xb1", "\xc1\x81", "\xf4\x90\x80\x80", "\xc3("}
	for low := range 128 {
		texts = append(texts, string(rune(low+1<<8)), string(rune(low+2<<8)), string(rune(low+1<<16)), string([]byte{byte(low + 128)}))
	}
	for _, text := range texts {
		wantMistake(t, text, impl.ErSyntax, 0)
		wantMistake(t, "A:1 "+text, impl.ErSyntax, 4)
		wantMistake(t, "12"+text+"3", impl.ErSyntax, 2)
		wantMistake(t, "_"+text, impl.ErSyntax, 0)
		wantMistake(t, "1000000000000"+text, impl.ErSyntax, 13)
		wantMistake(t, "1000000000001"+text, impl.ErLimit, 0)
	}
}

func TestLexEveryTextOfTwoBytes(t *testing.T) {
	for a := range 256 {
		for b := range 256 {
			wantLexAsModel(t, string([]byte{byte(a), byte(b)}))
		}
	}
}

// All short texts of pieces that change how their neighbours are read.
func TestLexEveryShortText(t *testing.T) {
	pieces := []string{" ", "0", "7", "_", "A", "(", ":", "-", "i", "x", "\n", "é", "\xff", "1000000000000", "1000000000001"}
	texts := []string{""}
	for range 4 {
		var longer []string
		for _, text := range texts {
			for _, piece := range pieces {
				longer = append(longer, text+piece)
			}
		}
		for _, text := range longer {
			wantLexAsModel(t, text)
		}
		texts = longer
	}
}

// drawing draws numbers from 0 up to below n, by a fixed rule.
func drawing(seed uint32) func(n int) int {
	return func(n int) int {
		seed = seed*1664525 + 1013904223
		return int(seed>>8) % n
	}
}

// longTexts are drawn by a fixed rule: right lines of each length, and some
// with one wrong piece in them.
func longTexts(count int) []string {
	pieces := []string{" ", "  ", "0", "00", "7", "12", "_3", "_0", "1000000000000", "_1000000000000", "_999999999999", "A", "Z", "(", ")", ":"}
	pieces = append(pieces, strings.Split(everySign, "")...)
	wrong := []string{"x", "_", "_ ", "1000000000001", "_1000000000001", "é", "\x80", "B_"}
	draw := drawing(20)
	var list []string
	for range count {
		var text strings.Builder
		for long := draw(310); text.Len() < long; {
			text.WriteString(pieces[draw(len(pieces))])
			if draw(150) == 0 {
				text.WriteString(wrong[draw(len(wrong))])
			}
		}
		list = append(list, text.String())
	}
	return list
}

func TestLexLongTexts(t *testing.T) {
	codes := map[int]int{}
	for _, text := range longTexts(4000) {
		wantLexAsModel(t, text)
		_, code, _ := impl.Lex(text)
		codes[code]++
	}
	for _, code := range []int{impl.ErNone, impl.ErSyntax, impl.ErLimit} {
		if codes[code] < 100 {
			t.Error("the test itself hardly asks for code", code, codes)
		}
	}
}

// wantedText writes a token by the words of the document.
func wantedText(x impl.Token) string {
	switch x.Kind {
	case impl.TkNum:
		return strings.Replace(fmt.Sprint(x.Value), "-", "_", 1)
	case impl.TkName:
		return "ABCDEFGHIJKLMNOPQRSTUVWXYZ"[x.Value : x.Value+1]
	case impl.TkSign:
		return string([]byte{byte(x.Value)})
	}
	return map[int]string{impl.TkOpen: "(", impl.TkClose: ")", impl.TkSet: ":"}[x.Kind]
}

func wantText(t *testing.T, want string, list ...impl.Token) {
	t.Helper()
	if text := impl.TokenText(list); text != want {
		t.Errorf("TokenText(%v) = %q; want %q", list, text, want)
	}
}

func TestTokenTextEachAlone(t *testing.T) {
	for _, x := range everyToken() {
		wantText(t, wantedText(x), x)
		wantText(t, wantedText(x)+" "+wantedText(x), x, x)
	}
	wantText(t, "0", numToken(0))
	wantText(t, "_1", numToken(-1))
	wantText(t, "1000000000000", numToken(top))
	wantText(t, "_1000000000000", numToken(-top))
	wantText(t, "A", nameToken('A'))
	wantText(t, "Z", nameToken('Z'))
	wantText(t, `\`, signToken('\\'))
}

func TestTokenTextOrdinary(t *testing.T) {
	wantText(t, "")
	wantText(t, "A : _12 + / ( i 3 )", nameToken('A'), setting, numToken(-12), signToken('+'), signToken('/'), opening, signToken('i'), numToken(3), closing)
	wantText(t, "1 2 _3", numToken(1), numToken(2), numToken(-3))
	wantText(t, "- 4", signToken('-'), numToken(4))
	wantText(t, "( )", opening, closing)
	if text := impl.TokenText([]impl.Token{}); text != "" {
		t.Errorf("of an empty list comes %q", text)
	}
}

// Up to MaxLine tokens are written, however long their text is.
func TestTokenTextLength(t *testing.T) {
	for _, x := range []impl.Token{nameToken('Q'), numToken(7), numToken(-top), signToken('.'), opening} {
		for _, long := range []int{1, 2, 149, 150, 151, 299, 300} {
			want := strings.TrimSuffix(strings.Repeat(wantedText(x)+" ", long), " ")
			wantText(t, want, slices.Repeat([]impl.Token{x}, long)...)
		}
		for _, long := range []int{301, 302, 600, 5000} {
			wantText(t, "", slices.Repeat([]impl.Token{x}, long)...)
		}
	}
}

func TestTokenTextOfWrongOnes(t *testing.T) {
	for _, x := range wrongTokens() {
		wantText(t, "", x)
		wantText(t, "", x, numToken(1))
		wantText(t, "", numToken(1), x)
		wantText(t, "", nameToken('A'), x, nameToken('B'))
	}
	for _, long := range []int{2, 7, 299, 300} {
		for at := range long {
			list := slices.Repeat([]impl.Token{signToken('+')}, long)
			list[at] = impl.Token{Kind: impl.TkSet, Value: 1}
			wantText(t, "", list...)
		}
	}
}

func wantReadAsWritten(t *testing.T, list []impl.Token) {
	t.Helper()
	text := impl.TokenText(list)
	if len(text) > impl.MaxLine {
		wantMistake(t, text, impl.ErLimit, 0)
		return
	}
	wantLex(t, text, list...)
}

// Promise 8: what is written is read as itself, each token behind each other.
func TestTokensAreReadAsWritten(t *testing.T) {
	wantReadAsWritten(t, nil)
	for _, a := range everyToken() {
		wantReadAsWritten(t, []impl.Token{a})
		for _, b := range everyToken() {
			wantReadAsWritten(t, []impl.Token{a, b})
			wantReadAsWritten(t, []impl.Token{b, a, b, b, a})
		}
	}
}

func TestLongListsAreReadAsWritten(t *testing.T) {
	all := everyToken()
	for from := range all {
		for long := range 120 {
			wantReadAsWritten(t, slices.Repeat(slices.Concat(all[from:], all[:from]), 2)[:long])
		}
	}
	wantReadAsWritten(t, slices.Repeat([]impl.Token{nameToken('C')}, 150))
	wantReadAsWritten(t, slices.Repeat([]impl.Token{nameToken('C')}, 151))
	wantReadAsWritten(t, slices.Repeat([]impl.Token{signToken('o')}, 300))
}

// The other way round: what is read is right, and written and read again it is
// the same; written anew the text stays as it is.
func TestWhatIsReadIsWrittenAndReadAgain(t *testing.T) {
	read := 0
	for _, text := range append(longTexts(4000), "007", "_0", "  A :00 _0012(  )", strings.Repeat("0", 300), "", "   ") {
		list, code, _ := impl.Lex(text)
		if code != impl.ErNone {
			continue
		}
		if len(list) > impl.MaxLine || slices.ContainsFunc(list, func(x impl.Token) bool { return !impl.TokenOk(x) }) {
			t.Errorf("Lex(%q) has tokens that are not right: %v", text, list)
		}
		written := impl.TokenText(list)
		wantReadAsWritten(t, list)
		if again, _, _ := impl.Lex(written); len(written) <= impl.MaxLine && impl.TokenText(again) != written {
			t.Errorf("%q is written anew as %q", written, impl.TokenText(again))
		}
		read++
	}
	if read < 1000 {
		t.Error("the test itself reads only", read, "texts")
	}
}

func TestTokenTextWithoutNeedlessNoughts(t *testing.T) {
	for _, c := range [][2]string{{"007", "7"}, {"_007", "_7"}, {"_0", "0"}, {"000", "0"}, {"_000", "0"}, {"  1_2 ", "1 _2"},
		{"A:00100", "A : 100"}, {strings.Repeat("0", 290) + "10", "10"}, {"(1)(2)", "( 1 ) ( 2 )"}} {
		list, _, _ := impl.Lex(c[0])
		wantText(t, c[1], list...)
	}
}

// scribbleTokens writes over a list and all the room behind it.
func scribbleTokens(list []impl.Token) {
	all := list[:cap(list)]
	for i := range all {
		all[i] = impl.Token{Kind: 98, Value: 99}
	}
	_ = append(list, impl.Token{Kind: 96, Value: 97})
}

func TestLexIsNewMemory(t *testing.T) {
	for _, text := range append(longTexts(50), "", "A", "A:_12+/ (i 3)", "x", "1 _", "1000000000001", strings.Repeat("A", 300), strings.Repeat("A", 301)) {
		bytes := []byte(text)
		mine := string(bytes)
		first, code, place := impl.Lex(mine)
		second, _, _ := impl.Lex(mine)
		kept := slices.Clone(second)
		scribbleTokens(first)
		if !slices.Equal(second, kept) || mine != text {
			t.Errorf("a write into the tokens of %q turns another answer, or the text: %v, %q", text, second, mine)
		}
		third, codeAgain, placeAgain := impl.Lex(mine)
		if !slices.Equal(third, kept) || codeAgain != code || placeAgain != place {
			t.Errorf("Lex(%q) keeps something: %v, %d, %d", text, third, codeAgain, placeAgain)
		}
	}
}

func TestTokenTextWritesIntoNothing(t *testing.T) {
	lists := [][]impl.Token{nil, {}, everyToken(), wrongTokens(), {numToken(1), numToken(top + 1)}, slices.Repeat([]impl.Token{numToken(-5)}, 300), slices.Repeat([]impl.Token{numToken(-5)}, 301)}
	for _, list := range lists {
		all := append(slices.Clone(list), numToken(71), nameToken('C'), numToken(top+7), signToken('+'))
		part, was := all[:len(list)], slices.Clone(all)
		text := impl.TokenText(part)
		kept := strings.Clone(text)
		for _, x := range part {
			impl.TokenOk(x)
		}
		if !slices.Equal(all, was) {
			t.Error("written into:", was, all)
		}
		if again := impl.TokenText(part); again != text {
			t.Errorf("something is kept: %q, %q", text, again)
		}
		scribbleTokens(all)
		if text != kept {
			t.Errorf("a write into the tokens turns their text: %q, %q", text, kept)
		}
	}
}
