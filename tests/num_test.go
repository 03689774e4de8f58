package tests

import (
	"math"
	"math/big"
	"strings"
	"testing"

	"loop.example/g00182/impl"
)

const (
	signsOfOne = "+-*|~"
	signsOfTwo = "+-*%|&^=<>"
	top        = impl.MaxNum
)

// rightNumbers holds what the document's edges turn on: nought, both sides of
// it, both limits, and factors whose product meets a limit or just passes it.
func rightNumbers() []int {
	list := []int{0}
	for _, x := range []int{1, 2, 3, 4, 5, 7, 8, 10, 63, 64, 65, 999999, 1000000, 1000001,
		1 << 19, 1 << 20, 1<<20 + 1, 1 << 31, 1 << 32, 1 << 39, 1<<39 + 1, 4294967297,
		top / 3, top/3 + 1, top / 2, top/2 + 1, top - 1, top} {
		list = append(list, x, -x)
	}
	return list
}

func wrongNumbers() []int {
	return []int{top + 1, -top - 1, 1 << 40, -1 << 40, 1<<62 + 5, math.MaxInt, math.MinInt + 1, math.MinInt}
}

// wrongSigns holds every number near the bytes that is no sign of known, and
// those that are one only when their high bits are cut away.
func wrongSigns(known string) []int {
	list := []int{math.MinInt, math.MaxInt, top, -top}
	for s := -300; s <= 600; s++ {
		if s < 0 || s > 255 || strings.IndexByte(known, byte(s)) < 0 {
			list = append(list, s)
		}
	}
	for _, s := range []byte(known) {
		list = append(list, -int(s), int(s)+1<<8, int(s)+1<<16, int(s)+1<<32, int(s)-1<<32, int(s)+math.MinInt)
	}
	return list
}

func wantOne(t *testing.T, sign int, x int, want int, code int) {
	t.Helper()
	if y, how := impl.One(sign, x); y != want || how != code {
		t.Errorf("One(%d, %d) = %d, %d; want %d, %d", sign, x, y, how, want, code)
	}
}

func wantTwo(t *testing.T, sign int, a int, b int, want int, code int) {
	t.Helper()
	if y, how := impl.Two(sign, a, b); y != want || how != code {
		t.Errorf("Two(%d, %d, %d) = %d, %d; want %d, %d", sign, a, b, y, how, want, code)
	}
}

func TestCodesAndLimit(t *testing.T) {
	codes := []int{impl.ErNone, impl.ErBad, impl.ErDomain, impl.ErLength, impl.ErRank, impl.ErIndex,
		impl.ErLimit, impl.ErValue, impl.ErSyntax, impl.ErFull, impl.ErSteps}
	for want, code := range codes {
		if code != want {
			t.Errorf("code number %d is %d", want, code)
		}
	}
	if impl.MaxNum != 1000000000000 {
		t.Error("MaxNum is", impl.MaxNum)
	}
}

func TestNumOk(t *testing.T) {
	for _, x := range rightNumbers() {
		if !impl.NumOk(x) {
			t.Error("right, but refused:", x)
		}
	}
	for _, x := range wrongNumbers() {
		if impl.NumOk(x) {
			t.Error("not right, but accepted:", x)
		}
	}
}

func TestOneOrdinary(t *testing.T) {
	for _, x := range rightNumbers() {
		wantOne(t, '+', x, x, impl.ErNone)
		wantOne(t, '-', x, 0-x, impl.ErNone)
		wantOne(t, '*', x, big.NewInt(int64(x)).Sign(), impl.ErNone)
		wantOne(t, '|', x, int(new(big.Int).Abs(big.NewInt(int64(x))).Int64()), impl.ErNone)
	}
}

func TestOneInvert(t *testing.T) {
	wantOne(t, '~', 0, 1, impl.ErNone)
	wantOne(t, '~', 1, 0, impl.ErNone)
	for _, x := range rightNumbers() {
		if x != 0 && x != 1 {
			wantOne(t, '~', x, 0, impl.ErDomain)
		}
	}
}

func TestOneWrong(t *testing.T) {
	numbers := append(rightNumbers(), wrongNumbers()...)
	for _, sign := range wrongSigns(signsOfOne) {
		for _, x := range numbers {
			wantOne(t, sign, x, 0, impl.ErBad)
		}
	}
	for _, sign := range []byte(signsOfOne) {
		for _, x := range wrongNumbers() {
			wantOne(t, int(sign), x, 0, impl.ErBad)
		}
	}
}

func TestTwoQuotient(t *testing.T) {
	rows := [][3]int{{7, 2, 3}, {-7, 2, -4}, {7, -2, -4}, {-7, -2, 3}, {6, 2, 3}, {-6, 2, -3}, {6, -2, -3},
		{-6, -2, 3}, {0, 5, 0}, {0, -5, 0}, {1, top, 0}, {-1, top, -1}, {1, -top, -1}, {-1, -top, 0},
		{top, 1, top}, {top, -1, -top}, {-top, 1, -top}, {-top, -1, top}, {top, top, 1}, {top, -top, -1},
		{top - 1, top, 0}, {1 - top, top, -1}, {top, top - 1, 1}, {-top, top - 1, -2}}
	for _, r := range rows {
		wantTwo(t, '%', r[0], r[1], r[2], impl.ErNone)
	}
}

func TestTwoRemainder(t *testing.T) {
	rows := [][3]int{{3, 7, 1}, {3, -7, 2}, {-3, 7, -2}, {-3, -7, -1}, {3, 6, 0}, {3, -6, 0}, {-3, 6, 0},
		{-3, -6, 0}, {5, 0, 0}, {-5, 0, 0}, {0, 7, 7}, {0, -7, -7}, {0, 0, 0}, {0, top, top}, {0, -top, -top},
		{1, top, 0}, {-1, -top, 0}, {top, 1, 1}, {top, -1, top - 1}, {-top, 1, 1 - top}, {-top, -1, -1},
		{top - 1, top, 1}, {top - 1, -top, top - 2}}
	for _, r := range rows {
		wantTwo(t, '|', r[0], r[1], r[2], impl.ErNone)
	}
}

func TestTwoAtTheLimit(t *testing.T) {
	rows := [][5]int{
		{'+', top - 1, 1, top, impl.ErNone}, {'+', top, 1, 0, impl.ErLimit}, {'+', top, top, 0, impl.ErLimit},
		{'+', 1 - top, -1, -top, impl.ErNone}, {'+', -top, -1, 0, impl.ErLimit}, {'+', -top, -top, 0, impl.ErLimit},
		{'-', top - 1, -1, top, impl.ErNone}, {'-', top, -1, 0, impl.ErLimit}, {'-', top, -top, 0, impl.ErLimit},
		{'-', 1 - top, 1, -top, impl.ErNone}, {'-', -top, 1, 0, impl.ErLimit}, {'-', 0, top, -top, impl.ErNone},
		{'*', 1000000, 1000000, top, impl.ErNone}, {'*', 1000000, -1000000, -top, impl.ErNone},
		{'*', -1000000, -1000000, top, impl.ErNone}, {'*', 1000001, 1000000, 0, impl.ErLimit},
		{'*', 1000001, -1000000, 0, impl.ErLimit}, {'*', 1000001, 999999, top - 1, impl.ErNone},
		{'*', 73, 13698630137, top + 1, impl.ErLimit}, {'*', 73, -13698630137, 0, impl.ErLimit},
		{'*', 1 << 20, 1 << 19, 1 << 39, impl.ErNone}, {'*', 1 << 20, 1 << 20, 0, impl.ErLimit},
		{'*', 4294967296, 4294967296, 0, impl.ErLimit}, {'*', 4294967296, -4294967296, 0, impl.ErLimit},
		{'*', top, top, 0, impl.ErLimit}, {'*', -top, top, 0, impl.ErLimit}, {'*', top, 2, 0, impl.ErLimit},
		{'*', top, 1, top, impl.ErNone}, {'*', top, -1, -top, impl.ErNone}, {'*', top, 0, 0, impl.ErNone},
	}
	for _, r := range rows {
		want := r[3]
		if r[4] != impl.ErNone {
			want = 0
		}
		wantTwo(t, r[0], r[1], r[2], want, r[4])
	}
}

func TestTwoWrong(t *testing.T) {
	pairs := [][2]int{{0, 0}, {1, 1}, {1, 0}, {top, top}, {top, -top}, {top + 1, 0}, {0, math.MinInt}}
	for _, sign := range wrongSigns(signsOfTwo) {
		for _, p := range pairs {
			wantTwo(t, sign, p[0], p[1], 0, impl.ErBad)
		}
	}
	numbers := append(rightNumbers(), wrongNumbers()...)
	for _, sign := range []byte(signsOfTwo) {
		for _, bad := range wrongNumbers() {
			for _, x := range numbers {
				wantTwo(t, int(sign), bad, x, 0, impl.ErBad)
				wantTwo(t, int(sign), x, bad, 0, impl.ErBad)
			}
		}
	}
}

func TestTwoByNought(t *testing.T) {
	for _, a := range rightNumbers() {
		wantTwo(t, '%', a, 0, 0, impl.ErDomain)
		wantTwo(t, '|', 0, a, a, impl.ErNone)
	}
}

func bigFloor(a int, b int) *big.Int {
	q, rest := new(big.Int).QuoRem(big.NewInt(int64(a)), big.NewInt(int64(b)), new(big.Int))
	if rest.Sign() != 0 && rest.Sign() != big.NewInt(int64(b)).Sign() {
		q.Sub(q, big.NewInt(1))
	}
	return q
}

func bigTruth(so bool) *big.Int {
	if so {
		return big.NewInt(1)
	}
	return new(big.Int)
}

// bigTwo reckons with numbers of any length, so that no limit can hide a
// wrong answer. It is not asked for `%` by nought.
func bigTwo(sign byte, a int, b int) *big.Int {
	x, y := big.NewInt(int64(a)), big.NewInt(int64(b))
	switch sign {
	case '+':
		return x.Add(x, y)
	case '-':
		return x.Sub(x, y)
	case '*':
		return x.Mul(x, y)
	case '%':
		return bigFloor(a, b)
	case '|':
		if a == 0 {
			return y
		}
		return y.Sub(y, x.Mul(x, bigFloor(b, a)))
	case '&':
		if x.Cmp(y) < 0 {
			return x
		}
		return y
	case '^':
		if x.Cmp(y) > 0 {
			return x
		}
		return y
	case '=':
		return bigTruth(x.Cmp(y) == 0)
	case '<':
		return bigTruth(x.Cmp(y) < 0)
	}
	return bigTruth(x.Cmp(y) > 0)
}

func wantAsBig(t *testing.T, sign byte, a int, b int) {
	t.Helper()
	if sign == '%' && b == 0 {
		wantTwo(t, int(sign), a, b, 0, impl.ErDomain)
		return
	}
	want := bigTwo(sign, a, b)
	if want.CmpAbs(big.NewInt(top)) > 0 {
		wantTwo(t, int(sign), a, b, 0, impl.ErLimit)
		return
	}
	wantTwo(t, int(sign), a, b, int(want.Int64()), impl.ErNone)
}

func TestTwoAgainstBigNumbers(t *testing.T) {
	for _, sign := range []byte(signsOfTwo) {
		for _, a := range rightNumbers() {
			for _, b := range rightNumbers() {
				wantAsBig(t, sign, a, b)
			}
		}
		for a := -25; a <= 25; a++ {
			for b := -25; b <= 25; b++ {
				wantAsBig(t, sign, a, b)
			}
		}
	}
}

// Of each first factor the greatest second one that keeps the product right
// is taken, and the one behind it.
func TestProductsAroundTheLimit(t *testing.T) {
	for a := 1; a <= top; a = a*3/2 + 1 {
		for _, b := range []int{top / a, top/a + 1} {
			if !impl.NumOk(b) {
				continue
			}
			wantAsBig(t, '*', a, b)
			wantAsBig(t, '*', -a, b)
			wantAsBig(t, '*', b, -a)
			wantAsBig(t, '*', -b, -a)
		}
	}
}

func TestQuotientTimesAndLeftOver(t *testing.T) {
	for _, a := range rightNumbers() {
		for _, b := range rightNumbers() {
			if b == 0 {
				continue
			}
			q, how1 := impl.Two('%', a, b)
			rest, how2 := impl.Two('|', b, a)
			if how1 != impl.ErNone || how2 != impl.ErNone || q*b+rest != a {
				t.Errorf("%d by %d: quotient %d (%d), left over %d (%d)", a, b, q, how1, rest, how2)
			}
			if b > 0 && (rest < 0 || rest >= b) || b < 0 && (rest > 0 || rest <= b) {
				t.Errorf("%d by %d leaves %d", a, b, rest)
			}
		}
	}
}

func TestNeutral(t *testing.T) {
	rows := [][2]int{{'+', 0}, {'-', 0}, {'|', 0}, {'*', 1}, {'%', 1}, {'&', top}, {'^', -top}, {'=', 1}, {'<', 0}, {'>', 0}}
	for _, r := range rows {
		if n, ok := impl.Neutral(r[0]); n != r[1] || !ok {
			t.Errorf("Neutral(%d) = %d, %v; want %d", r[0], n, ok, r[1])
		}
	}
	for _, sign := range wrongSigns(signsOfTwo) {
		if n, ok := impl.Neutral(sign); n != 0 || ok {
			t.Errorf("Neutral(%d) = %d, %v; want 0, false", sign, n, ok)
		}
	}
}

func TestNeutralChangesNothing(t *testing.T) {
	for _, sign := range []byte("+*&^") {
		n, _ := impl.Neutral(int(sign))
		for _, x := range rightNumbers() {
			wantTwo(t, int(sign), n, x, x, impl.ErNone)
		}
	}
}
