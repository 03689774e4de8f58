package tests

import (
	"math"
	"slices"
	"strings"
	"testing"

	"loop.example/g00182/impl"
)

func spansOf(places ...int) []impl.Span {
	var list []impl.Span
	for i := 0; i < len(places); i += 2 {
		list = append(list, impl.Span{From: places[i], To: places[i+1]})
	}
	return list
}

func wantedPlain(in impl.Instr) bool {
	switch in.Op {
	case impl.OpNum, impl.OpLoad:
		return true
	case impl.OpOne:
		return in.F.Oper == 0 && isByteOf(signsOfOne, in.F.Sign)
	case impl.OpTwo:
		return in.F.Oper == 0 && isByteOf(signsOfTwo, in.F.Sign)
	}
	return false
}

// isRun goes back from the last instruction of right code to the first one that
// it rests on, and counts no stack.
func isRun(code []impl.Instr, from int, to int) bool {
	does := false
	for _, in := range code[from:to] {
		if !wantedPlain(in) {
			return false
		}
		does = does || in.Op == impl.OpOne || in.Op == impl.OpTwo
	}
	return does && firstOwn(code, to-1) == from
}

// wantedSpans tries each end at each place, the last one first.
func wantedSpans(code []impl.Instr) []impl.Span {
	var list []impl.Span
	if !wantedCodeOk(code) {
		return nil
	}
	for from := 0; from < len(code); from++ {
		for to := len(code); to > from; to-- {
			if isRun(code, from, to) {
				list = append(list, impl.Span{From: from, To: to})
				from = to - 1
				break
			}
		}
	}
	return list
}

func wantSpans(t *testing.T, code []impl.Instr, want []impl.Span) {
	t.Helper()
	if got := impl.Spans(code); !slices.Equal(got, want) {
		t.Errorf("Spans(%v) = %v; want %v", code, got, want)
	}
}

func wantLineSpans(t *testing.T, text string, places ...int) {
	t.Helper()
	code := wantedCode(lineTree(t, text).Nodes)
	wantSpans(t, code, spansOf(places...))
	if want := wantedSpans(code); !slices.Equal(want, spansOf(places...)) {
		t.Errorf("the model itself has other spans of %q: %v", text, want)
	}
}

func TestSpansOrdinary(t *testing.T) {
	wantLineSpans(t, "- 7", 0, 2)
	wantLineSpans(t, "- A", 0, 2)
	wantLineSpans(t, "9 - 7", 0, 3)
	wantLineSpans(t, "A - B", 0, 3)
	wantLineSpans(t, "A * 2 + A", 0, 5)
	wantLineSpans(t, "1 2 3 = | _1 2 _3 * - A", 0, 7)
	wantLineSpans(t, "B : + / A * 2 + A", 0, 5)
	wantLineSpans(t, "A : - 7", 0, 2)
	wantLineSpans(t, "( - 1 ) , - 2", 0, 2, 2, 4)
	wantLineSpans(t, "( 1 + 2 ) , ( 3 + 4 ) , 5 + 6", 0, 3, 3, 6, 7, 10)
	wantLineSpans(t, "( 1 + 2 ) + A : 3 + 4", 0, 3, 4, 7)
	wantLineSpans(t, "( - 5 ) o + 6 7", 1, 3)
	wantLineSpans(t, "( A + B ) + . * A - B", 0, 3, 3, 6)
}

func TestSpansWhereThereIsNone(t *testing.T) {
	for _, text := range []string{"7", "1 2 3", "A", "A : 7", "A : B", "i 3", "+ / 1 2", "1 , 2", "1 2 o + 3 4", "1 2 + . * 3 4", "A , B , C", "# r 1 2 3", "- i 3", "1 + i 3", "( A : 1 ) + 2", "1 + A : 2", "- A : 2", "( i 3 ) + i 4"} {
		wantLineSpans(t, text)
	}
}

// A run ends ahead of what would take more than it put there itself, and of
// what leaves two: so does the one that begins at the next place.
func TestSpansTakeNoMoreThanTheyPut(t *testing.T) {
	wantLineSpans(t, "( - 1 ) + i 3", 2, 4)
	wantLineSpans(t, "- ( - 1 ) + i 3", 2, 4)
	wantLineSpans(t, "2 * ( - 1 ) + i 3", 2, 4)
	wantLineSpans(t, "( - 1 ) + - i 3", 3, 5)
	wantLineSpans(t, "( - 1 ) + ( - 2 ) + i 3", 2, 4, 5, 7)
	wantLineSpans(t, "( A : 1 ) + - 2", 0, 2)
	wantLineSpans(t, "( A : 1 ) + 2 + 3", 0, 3)
	wantLineSpans(t, "( ( i 2 ) + 1 ) + - 3", 0, 2)
	wantLineSpans(t, "( 2 + 3 ) , 1", 1, 4)
	wantLineSpans(t, "( ( 2 + 3 ) , 1 ) , 4", 2, 5)
	wantLineSpans(t, "( ( 2 + 3 ) , - 1 ) , 4", 1, 3, 3, 6)
	// Two are left where the plain steps end.
	wantSpans(t, codeOf(numInstr(1), numInstr(2), oneInstr(plainFun('-')), twoInstr(plainFun(','))), spansOf(1, 3))
	wantSpans(t, codeOf(numInstr(1), oneInstr(plainFun('-')), numInstr(2), twoInstr(plainFun(','))), spansOf(0, 2))
	wantSpans(t, codeOf(numInstr(1), numInstr(2), numInstr(3), twoInstr(plainFun('+')), twoInstr(plainFun(','))), spansOf(1, 4))
}

// Of several runs that begin at one place the longest one counts.
func TestSpansAreTheLongest(t *testing.T) {
	wantLineSpans(t, "( - 1 ) + - 2", 0, 5)
	wantLineSpans(t, "- - - 2", 0, 4)
	wantLineSpans(t, "3 + 4 + - 2", 0, 6)
	wantLineSpans(t, "( 1 - 2 ) * ( 3 - 4 ) * 5 - 6", 0, 11)
	wantLineSpans(t, "( A : 7 ) - ( 1 - 2 ) * ( 3 - 4 ) * 5 - 6", 0, 11)
	wantLineSpans(t, "( i 7 ) - ( 1 - 2 ) * ( 3 - 4 ) * 5 - 6", 0, 11)
	for count := 2; count <= 60; count++ {
		code := append(codeOf(numInstr(1)), slices.Repeat(codeOf(oneInstr(plainFun('-'))), count-1)...)
		wantSpans(t, code, spansOf(0, count))
		wantSpans(t, append(code[:count-1:count-1], oneInstr(plainFun('i'))), spansOf(0, count-1)[:min(1, count-2)])
	}
	for count := 2; count <= 30; count++ {
		wantSpans(t, deepCode(count), spansOf(0, 2*count-1))
	}
}

// Each function, alone and within a run, and each kind of what puts.
func TestSpansOfEachFunction(t *testing.T) {
	plain := 0
	for _, f := range funsOfOne() {
		is := f.Oper == 0 && isByteOf(signsOfOne, f.Sign)
		for _, put := range codeOf(numInstr(4), numInstr(1, 0), loadInstr('A'), loadInstr('Z')) {
			ends := map[bool][]impl.Span{true: spansOf(0, 4), false: spansOf(0, 2)}
			wantSpans(t, codeOf(put, oneInstr(plainFun('-')), oneInstr(f), oneInstr(plainFun('-'))), ends[is])
			ends = map[bool][]impl.Span{true: spansOf(0, 2)}
			wantSpans(t, codeOf(put, oneInstr(f)), ends[is])
		}
		if is {
			plain++
		}
	}
	for _, f := range funsOfTwo() {
		is := f.Oper == 0 && isByteOf(signsOfTwo, f.Sign)
		for _, put := range codeOf(numInstr(4), numInstr(1, 0), loadInstr('A'), loadInstr('Z')) {
			ends := map[bool][]impl.Span{true: spansOf(0, 5), false: spansOf(0, 2)}
			wantSpans(t, codeOf(put, oneInstr(plainFun('-')), put, twoInstr(f), oneInstr(plainFun('-'))), ends[is])
			ends = map[bool][]impl.Span{true: spansOf(0, 3)}
			wantSpans(t, codeOf(numInstr(4), put, twoInstr(f)), ends[is])
		}
		if is {
			plain++
		}
	}
	if plain != len(signsOfOne)+len(signsOfTwo) {
		t.Error("the test itself has other plain signs:", plain)
	}
	for letter := byte('A'); letter <= 'Z'; letter++ {
		wantSpans(t, codeOf(loadInstr(letter), oneInstr(plainFun('~'))), spansOf(0, 2))
		wantSpans(t, codeOf(loadInstr(letter), setInstr(letter), oneInstr(plainFun('~'))), nil)
		wantSpans(t, codeOf(loadInstr(letter), oneInstr(plainFun('~')), setInstr(letter), oneInstr(plainFun('~'))), spansOf(0, 2))
	}
}

// spanCode has that many spans of two instructions, all on the stack ahead of
// joining them.
func spanCode(count int) []impl.Instr {
	code := slices.Repeat(codeOf(numInstr(3), oneInstr(plainFun('-'))), count)
	return append(code, slices.Repeat(codeOf(twoInstr(plainFun(','))), count-1)...)
}

// A span has two instructions at least, and each but one wants one more that
// takes what it left: so 60 instructions have at most 20.
func TestSpansAsManyAsCanBe(t *testing.T) {
	for count := 1; count <= 20; count++ {
		var want []impl.Span
		for i := range count {
			want = append(want, impl.Span{From: 2 * i, To: 2*i + 2})
		}
		wantSpans(t, spanCode(count), want)
		// Joined one by one each stands three places further.
		code := codeOf(numInstr(3), oneInstr(plainFun('-')))
		want = spansOf(0, 2)
		for i := 1; i < count; i++ {
			want = append(want, impl.Span{From: 3*i - 1, To: 3*i + 1})
			code = append(code, numInstr(3), oneInstr(plainFun('-')), twoInstr(plainFun(',')))
		}
		wantSpans(t, code, want)
	}
	wantSpans(t, spanCode(21), nil)
	most := 0
	for _, code := range plainCodes(3000) {
		most = max(most, len(impl.Spans(code)))
	}
	if most < 10 || most > 20 {
		t.Error("so many spans are in one code:", most)
	}
}

func TestSpansOfWhatIsNotCode(t *testing.T) {
	minus := plainFun('-')
	wrong := append(wrongCodesToTry(), codeOf(numInstr(1), oneInstr(minus), numInstr(2)), codeOf(numInstr(1), oneInstr(minus), numInstr(2), oneInstr(minus)), codeOf(numInstr(1), oneInstr(minus), twoInstr(minus)),
		append(slices.Repeat(codeOf(numInstr(1), oneInstr(minus)), 20), numInstr(1)), codeOf(numInstr(1), oneInstr(minus), impl.Instr{}), codeOf(numInstr(1), oneInstr(minus), loadInstr('Z'+1), twoInstr(minus)),
		codeOf(numInstr(1), oneInstr(minus), numInstr(top+1), twoInstr(minus)), codeOf(numInstr(1), impl.Instr{Op: impl.OpOne, F: minus, A: 1}), codeOf(numInstr(1), impl.Instr{Op: impl.OpOne, F: minus, Nums: []int{0}}))
	for _, code := range wrong {
		if got := impl.Spans(code); len(got) > 0 || impl.CodeOk(code) {
			t.Errorf("Spans(%v) = %v", code, got)
		}
	}
	// A sign that is one of One's or Two's when its high bits are cut away.
	for _, sign := range wrongSigns(everySign) {
		wantSpans(t, codeOf(numInstr(1), oneInstr(impl.Fun{Sign: sign})), nil)
		wantSpans(t, codeOf(numInstr(1), numInstr(1), twoInstr(impl.Fun{Sign: sign})), nil)
		if sign != 0 {
			wantSpans(t, codeOf(numInstr(1), oneInstr(impl.Fun{Sign: '-', Oper: sign})), nil)
			wantSpans(t, codeOf(numInstr(1), numInstr(1), twoInstr(impl.Fun{Sign: '-', With: sign})), nil)
		}
	}
	for _, op := range []int{0, -1, 6, 1<<32 + impl.OpOne, math.MinInt, math.MaxInt} {
		wantSpans(t, codeOf(numInstr(1), impl.Instr{Op: op, F: minus}), nil)
	}
}

func TestSpansEveryShortList(t *testing.T) {
	choice := codeOf(numInstr(4), loadInstr('A'), setInstr('A'), oneInstr(plainFun('-')), oneInstr(plainFun('i')), twoInstr(plainFun('+')), twoInstr(plainFun(',')))
	counts := map[int]int{}
	for long := range 8 {
		everyCode(choice, long, func(code []impl.Instr) {
			// Beyond five just what is code is looked at.
			if long > 5 && !impl.CodeOk(code) {
				return
			}
			want := wantedSpans(code)
			wantSpans(t, code, want)
			counts[len(want)]++
		})
	}
	if counts[1] < 1000 || counts[2] < 100 || len(counts) < 3 {
		t.Error("the test itself hardly has spans:", counts)
	}
}

// plainCodes are drawn by a fixed rule: most of their steps are plain ones, the
// letters are few, and what they put is short.
func plainCodes(count int) [][]impl.Instr {
	g := newGarden(77)
	g.ones, g.twos = nil, nil
	for _, sign := range []byte(strings.Repeat(signsOfOne, 2) + "-+|,r") {
		g.ones = append(g.ones, plainFun(sign))
	}
	for _, sign := range []byte(strings.Repeat(signsOfTwo, 2) + "+-&^=<>,,,ee") {
		g.twos = append(g.twos, plainFun(sign))
	}
	g.ones, g.twos = append(g.ones, operFun('+', '/'), operFun('&', '\\')), append(g.twos, operFun('+', 'o'))
	var list [][]impl.Instr
	for i := range count {
		code := wantedCode(g.grow(1 + i%60).nodes)
		for j, in := range code {
			switch in.Op {
			case impl.OpNum:
				code[j] = []impl.Instr{numInstr(g.draw(9) - 4), numInstr(g.draw(2)), numInstr(g.draw(9)-4, g.draw(9)-4, g.draw(2))}[g.draw(3)*g.draw(2)]
			case impl.OpLoad, impl.OpSet:
				code[j].A = g.draw(5)
			}
		}
		list = append(list, code)
	}
	return list
}

func TestSpansAsModel(t *testing.T) {
	counts := map[int]int{}
	for _, code := range slices.Concat(plainCodes(1500), grownCodes(300), codesToStep()) {
		want := wantedSpans(code)
		wantSpans(t, code, want)
		counts[min(len(want), 6)]++
		last := 0
		for _, s := range want {
			if s.From < last || s.To < s.From+2 || s.To > len(code) {
				t.Errorf("spans of %v meet: %v", code, want)
			}
			last = s.To
		}
	}
	if len(counts) != 7 || counts[1] < 100 || counts[6] < 30 {
		t.Error("the test itself hardly has spans:", counts)
	}
}

func TestSpansOfSpoiledCode(t *testing.T) {
	some, none := 0, 0
	for _, code := range append(plainCodes(14), codesToStep()...) {
		for i, x := range code {
			for _, y := range spoiledInstrs(x) {
				other := slices.Clone(code)
				other[i] = y
				want := wantedSpans(other)
				wantSpans(t, other, want)
				if len(want) > 0 {
					some++
				} else {
					none++
				}
			}
		}
	}
	if some < 100 || none < 1000 {
		t.Error("the test itself hardly has both:", some, none)
	}
}
