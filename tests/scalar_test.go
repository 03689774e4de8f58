package tests

import (
	"math/big"
	"slices"
	"strings"
	"testing"

	"loop.example/g00182/impl"
)

func scalar(x int) impl.Array { return impl.Array{Data: []int{x}} }

func vector(list ...int) impl.Array {
	return impl.Array{Shape: []int{len(list)}, Data: list}
}

// repeated has an array of that shape whose numbers go round in list, from
// its number start on.
func repeated(shape []int, list []int, start int) impl.Array {
	a := impl.Array{Shape: slices.Clone(shape), Data: make([]int, wantedSize(shape))}
	for i := range a.Data {
		a.Data[i] = list[(start+i)%len(list)]
	}
	return a
}

func wantEachOne(t *testing.T, sign int, a impl.Array, want impl.Array, code int) {
	t.Helper()
	if x, how := impl.EachOne(sign, a); how != code || !alike(x, want) {
		t.Errorf("EachOne(%d, %v) = %v, %d; want %v, %d", sign, a, x, how, want, code)
	}
}

func wantFit(t *testing.T, a impl.Array, b impl.Array, want []int, code int) {
	t.Helper()
	if x, how := impl.Fit(a, b); how != code || !slices.Equal(x, want) {
		t.Errorf("Fit(%v, %v) = %v, %d; want %v, %d", a, b, x, how, want, code)
	}
}

func wantEachTwo(t *testing.T, sign int, a impl.Array, b impl.Array, want impl.Array, code int) {
	t.Helper()
	if x, how := impl.EachTwo(sign, a, b); how != code || !alike(x, want) {
		t.Errorf("EachTwo(%d, %v, %v) = %v, %d; want %v, %d", sign, a, b, x, how, want, code)
	}
}

// wantNoEachTwo is asked of both sides.
func wantNoEachTwo(t *testing.T, sign int, a impl.Array, b impl.Array, code int) {
	t.Helper()
	wantEachTwo(t, sign, a, b, impl.Array{}, code)
	wantEachTwo(t, sign, b, a, impl.Array{}, code)
}

// wantedOne reckons with numbers of any length; where the answer is none, it
// tells ErDomain.
func wantedOne(sign byte, x int) (int, int) {
	y := big.NewInt(int64(x))
	switch sign {
	case '-':
		y.Neg(y)
	case '*':
		y.SetInt64(int64(y.Sign()))
	case '|':
		y.Abs(y)
	case '~':
		if x != 0 && x != 1 {
			return 0, impl.ErDomain
		}
		y.Sub(big.NewInt(1), y)
	}
	return int(y.Int64()), impl.ErNone
}

func wantedTwo(sign byte, a int, b int) (int, int) {
	if sign == '%' && b == 0 {
		return 0, impl.ErDomain
	}
	x := bigTwo(sign, a, b)
	if x.CmpAbs(big.NewInt(top)) > 0 {
		return 0, impl.ErLimit
	}
	return int(x.Int64()), impl.ErNone
}

func wantedEachOne(sign byte, a impl.Array) (impl.Array, int) {
	want := impl.Array{Shape: a.Shape}
	for _, x := range a.Data {
		y, code := wantedOne(sign, x)
		if code != impl.ErNone {
			return impl.Array{}, code
		}
		want.Data = append(want.Data, y)
	}
	return want, impl.ErNone
}

// spread has the numbers of a as often as those of b, where a is of rank 0.
func spread(a impl.Array, b impl.Array) impl.Array {
	if len(a.Shape) == 0 {
		return repeated(b.Shape, a.Data, 0)
	}
	return a
}

// wantedEachTwo is asked of arrays that fit: of one shape, or one of rank 0.
func wantedEachTwo(sign byte, a impl.Array, b impl.Array) (impl.Array, int) {
	a, b = spread(a, b), spread(b, a)
	want := impl.Array{Shape: a.Shape}
	for i := range a.Data {
		y, code := wantedTwo(sign, a.Data[i], b.Data[i])
		if code != impl.ErNone {
			return impl.Array{}, code
		}
		want.Data = append(want.Data, y)
	}
	return want, impl.ErNone
}

func wantEachOneAsBig(t *testing.T, sign byte, a impl.Array) {
	t.Helper()
	want, code := wantedEachOne(sign, a)
	wantEachOne(t, int(sign), a, want, code)
}

func wantEachTwoAsBig(t *testing.T, sign byte, a impl.Array, b impl.Array) {
	t.Helper()
	want, code := wantedEachTwo(sign, a, b)
	wantEachTwo(t, int(sign), a, b, want, code)
}

func TestEachOneOrdinary(t *testing.T) {
	data := []int{-5, 0, 7, -1, 1, 12}
	wantEachOne(t, '+', vector(data...), vector(data...), impl.ErNone)
	wantEachOne(t, '-', vector(data...), vector(5, 0, -7, 1, -1, -12), impl.ErNone)
	wantEachOne(t, '*', vector(data...), vector(-1, 0, 1, -1, 1, 1), impl.ErNone)
	wantEachOne(t, '|', vector(data...), vector(5, 0, 7, 1, 1, 12), impl.ErNone)
	wantEachOne(t, '~', vector(1, 0, 0, 1), vector(0, 1, 1, 0), impl.ErNone)
	wantEachOne(t, '~', vector(1, 0, 2, 1), impl.Array{}, impl.ErDomain)
	wantEachOne(t, '-', scalar(4), scalar(-4), impl.ErNone)
	wantEachOne(t, '-', impl.Array{Shape: []int{2, 3}, Data: data},
		impl.Array{Shape: []int{2, 3}, Data: []int{5, 0, -7, 1, -1, -12}}, impl.ErNone)
	wantEachOne(t, '|', impl.Array{Shape: []int{3, 1, 2}, Data: data},
		impl.Array{Shape: []int{3, 1, 2}, Data: []int{5, 0, 7, 1, 1, 12}}, impl.ErNone)
}

func TestEachOneOfEveryShape(t *testing.T) {
	for _, shape := range someShapes() {
		for _, sign := range []byte(signsOfOne) {
			wantEachOneAsBig(t, sign, numberedArray(shape))
			wantEachOneAsBig(t, sign, repeated(shape, rightNumbers(), 0))
			wantEachOneAsBig(t, sign, repeated(shape, []int{0, 1, 1, 0, 0}, 0))
			wantEachOneAsBig(t, sign, repeated(shape, []int{top, -top, top - 1}, 0))
		}
	}
}

// Promise 4, by index: the number at each is One of the one at it.
func TestEachOneAtEveryIndex(t *testing.T) {
	for _, shape := range someShapes() {
		a := repeated(shape, []int{0, 1, 1, 0, 0}, 3)
		for _, sign := range []byte(signsOfOne) {
			made, _ := impl.EachOne(int(sign), a)
			for _, index := range listedIndexes(shape) {
				x, _ := impl.NumAt(a, index)
				want, _ := impl.One(int(sign), x)
				wantNum(t, made, index, want, true)
			}
		}
	}
}

// A code counts at each place, alone or with others behind it.
func TestEachOneWithACode(t *testing.T) {
	for _, shape := range append(smallShapes(), []int{300}, []int{10, 10, 3}) {
		for i := range wantedSize(shape) {
			for _, x := range []int{-1, 2, top, -top} {
				a := repeated(shape, []int{0, 1}, 0)
				a.Data[i] = x
				wantEachOne(t, '~', a, impl.Array{}, impl.ErDomain)
				a.Data[len(a.Data)-1] = 7
				wantEachOne(t, '~', a, impl.Array{}, impl.ErDomain)
			}
		}
	}
}

func emptyShapes() [][]int {
	return [][]int{{0}, {0, 0}, {0, 2}, {2, 0}, {300, 0}, {0, 0, 0}, {0, 2, 3}, {2, 0, 3}, {2, 3, 0}, {300, 300, 0}, {0, 300, 300}}
}

func TestEachOneWithoutNumbers(t *testing.T) {
	for _, shape := range emptyShapes() {
		a := impl.Array{Shape: shape}
		for _, sign := range []byte(signsOfOne) {
			wantEachOne(t, int(sign), a, a, impl.ErNone)
		}
		for _, sign := range wrongSigns(signsOfOne) {
			wantEachOne(t, sign, a, impl.Array{}, impl.ErBad)
		}
	}
}

func TestEachOneWrong(t *testing.T) {
	for _, a := range append(everyWrongArray(), impl.Array{}) {
		for _, sign := range append([]byte(signsOfOne), "i%&"...) {
			wantEachOne(t, int(sign), a, impl.Array{}, impl.ErBad)
		}
	}
	for _, shape := range smallShapes() {
		for _, sign := range wrongSigns(signsOfOne) {
			wantEachOne(t, sign, numberedArray(shape), impl.Array{}, impl.ErBad)
			wantEachOne(t, sign, repeated(shape, []int{0}, 0), impl.Array{}, impl.ErBad)
		}
	}
}

// A number that is not right counts ahead of one ahead of it with a code.
func TestEachOneBadAheadOfCodes(t *testing.T) {
	for _, x := range wrongNumbers() {
		wantEachOne(t, '~', vector(5, 5, x), impl.Array{}, impl.ErBad)
		wantEachOne(t, '~', impl.Array{Shape: []int{2, 2}, Data: []int{5, 1, 0, x}}, impl.Array{}, impl.ErBad)
	}
	wantEachOne(t, '~', impl.Array{Shape: []int{3}, Data: []int{5, 5}}, impl.Array{}, impl.ErBad)
}

func TestFitOrdinary(t *testing.T) {
	v, m := vector(1, 2, 3), impl.Array{Shape: []int{3, 1}, Data: []int{1, 2, 3}}
	wantFit(t, v, vector(7, 8, 9), []int{3}, impl.ErNone)
	wantFit(t, scalar(4), m, []int{3, 1}, impl.ErNone)
	wantFit(t, m, scalar(4), []int{3, 1}, impl.ErNone)
	wantFit(t, scalar(4), scalar(5), nil, impl.ErNone)
	wantFit(t, v, m, nil, impl.ErRank)
	wantFit(t, m, v, nil, impl.ErRank)
	wantFit(t, v, vector(1, 2), nil, impl.ErLength)
	wantFit(t, m, impl.Array{Shape: []int{1, 3}, Data: []int{1, 2, 3}}, nil, impl.ErLength)
}

func TestFitOfEveryTwoShapes(t *testing.T) {
	for _, p := range someShapes() {
		for _, q := range someShapes() {
			a, b := numberedArray(p), numberedArray(q)
			switch {
			case len(p) == 0:
				wantFit(t, a, b, q, impl.ErNone)
			case len(q) == 0:
				wantFit(t, a, b, p, impl.ErNone)
			case len(p) != len(q):
				wantFit(t, a, b, nil, impl.ErRank)
			case !slices.Equal(p, q):
				wantFit(t, a, b, nil, impl.ErLength)
			default:
				wantFit(t, a, b, p, impl.ErNone)
			}
		}
	}
}

func TestFitWrong(t *testing.T) {
	for _, a := range append(everyWrongArray(), impl.Array{}) {
		for _, b := range []impl.Array{a, scalar(1), vector(), vector(1), vector(1, 2, 3), numberedArray([]int{2, 3}), numberedArray([]int{2, 0, 3})} {
			wantFit(t, a, b, nil, impl.ErBad)
			wantFit(t, b, a, nil, impl.ErBad)
		}
	}
}

// An array of one number is a scalar by its rank alone.
func TestOneNumberOfAHigherRank(t *testing.T) {
	ones := []impl.Array{vector(2), {Shape: []int{1, 1}, Data: []int{2}}, {Shape: []int{1, 1, 1}, Data: []int{2}}}
	for i, a := range ones {
		wantEachTwo(t, '-', a, scalar(5), impl.Array{Shape: a.Shape, Data: []int{-3}}, impl.ErNone)
		wantEachTwo(t, '-', scalar(5), a, impl.Array{Shape: a.Shape, Data: []int{3}}, impl.ErNone)
		wantEachTwo(t, '+', a, a, impl.Array{Shape: a.Shape, Data: []int{4}}, impl.ErNone)
		for _, shape := range someShapes() {
			if len(shape) == 0 || slices.Equal(shape, a.Shape) {
				continue
			}
			code := impl.ErRank
			if len(shape) == i+1 {
				code = impl.ErLength
			}
			wantFit(t, a, numberedArray(shape), nil, code)
			wantFit(t, numberedArray(shape), a, nil, code)
			wantNoEachTwo(t, '+', a, numberedArray(shape), code)
		}
	}
}

func TestEachTwoOrdinary(t *testing.T) {
	v := vector(7, -7, 2)
	rows := []struct {
		sign                 int
		both, before, behind []int
	}{
		{'+', []int{10, -9, 2}, []int{12, -2, 7}, []int{12, -2, 7}},
		{'-', []int{4, -5, 2}, []int{-2, 12, 3}, []int{2, -12, -3}},
		{'*', []int{21, 14, 0}, []int{35, -35, 10}, []int{35, -35, 10}},
		{'%', nil, []int{0, -1, 2}, []int{1, -2, 0}},
		{'|', []int{3, -2, 0}, []int{2, 3, 2}, []int{5, -2, 1}},
		{'&', []int{3, -7, 0}, []int{5, -7, 2}, []int{5, -7, 2}},
		{'^', []int{7, -2, 2}, []int{7, 5, 5}, []int{7, 5, 5}},
		{'=', []int{0, 0, 0}, []int{0, 0, 0}, []int{0, 0, 0}},
		{'<', []int{0, 1, 0}, []int{1, 0, 0}, []int{0, 1, 1}},
		{'>', []int{1, 0, 1}, []int{0, 1, 1}, []int{1, 0, 0}},
	}
	for _, r := range rows {
		if r.both != nil {
			wantEachTwo(t, r.sign, v, vector(3, -2, 0), vector(r.both...), impl.ErNone)
		}
		wantEachTwo(t, r.sign, scalar(5), v, vector(r.before...), impl.ErNone)
		wantEachTwo(t, r.sign, v, scalar(5), vector(r.behind...), impl.ErNone)
	}
	wantEachTwo(t, '%', v, vector(3, -2, 0), impl.Array{}, impl.ErDomain)
	wantEachTwo(t, '%', v, vector(3, -2, 4), vector(2, 3, 0), impl.ErNone)
	wantEachTwo(t, '%', scalar(-7), scalar(2), scalar(-4), impl.ErNone)
	wantEachTwo(t, '=', v, vector(7, 7, 2), vector(1, 0, 1), impl.ErNone)
}

func TestEachTwoOfEveryShape(t *testing.T) {
	for _, shape := range someShapes() {
		a, b := repeated(shape, rightNumbers(), 1), repeated(shape, rightNumbers(), 12)
		c, d := repeated(shape, []int{4, -9, 0, 3, 11, -2, 8}, 0), repeated(shape, []int{3, -2, 5, -7, 1}, 0)
		for _, sign := range []byte(signsOfTwo) {
			wantEachTwoAsBig(t, sign, a, b)
			wantEachTwoAsBig(t, sign, c, d)
			wantEachTwoAsBig(t, sign, d, c)
			wantEachTwoAsBig(t, sign, d, d)
			for _, x := range []int{0, 1, -1, 3, -4, 1000, top, -top} {
				wantEachTwoAsBig(t, sign, scalar(x), c)
				wantEachTwoAsBig(t, sign, c, scalar(x))
				wantEachTwoAsBig(t, sign, scalar(x), d)
				wantEachTwoAsBig(t, sign, d, scalar(x))
			}
		}
	}
}

// A scalar and an array of one number to each pair: so each code is alone.
func TestEachTwoOfSingleNumbers(t *testing.T) {
	for _, sign := range []byte(signsOfTwo) {
		for _, x := range rightNumbers() {
			for _, y := range rightNumbers() {
				wantEachTwoAsBig(t, sign, scalar(x), scalar(y))
				wantEachTwoAsBig(t, sign, scalar(x), vector(y))
				wantEachTwoAsBig(t, sign, vector(x), scalar(y))
				wantEachTwoAsBig(t, sign, vector(x), vector(y))
			}
		}
	}
}

// Promise 4, by index: the number at each is Two of those at it.
func TestEachTwoAtEveryIndex(t *testing.T) {
	for _, shape := range someShapes() {
		a, b := repeated(shape, []int{4, -9, 6, 3, 11, -2, 8}, 0), repeated(shape, []int{3, -2, 5, -7, 1}, 0)
		for _, sign := range []byte(signsOfTwo) {
			made, _ := impl.EachTwo(int(sign), a, b)
			first, _ := impl.EachTwo(int(sign), scalar(13), b)
			second, _ := impl.EachTwo(int(sign), a, scalar(13))
			for _, index := range listedIndexes(shape) {
				x, _ := impl.NumAt(a, index)
				y, _ := impl.NumAt(b, index)
				want, _ := impl.Two(int(sign), x, y)
				wantNum(t, made, index, want, true)
				want, _ = impl.Two(int(sign), 13, y)
				wantNum(t, first, index, want, true)
				want, _ = impl.Two(int(sign), x, 13)
				wantNum(t, second, index, want, true)
			}
		}
	}
}

// What follows: a scalar beside an array is as the array full of it.
func TestScalarIsDoneToEach(t *testing.T) {
	for _, shape := range someShapes() {
		a := repeated(shape, rightNumbers(), 5)
		for _, sign := range []byte(signsOfTwo) {
			for _, x := range []int{0, 1, -3, 1000000, top, -top} {
				full := repeated(shape, []int{x}, 0)
				want, code := impl.EachTwo(int(sign), full, a)
				wantEachTwo(t, int(sign), scalar(x), a, want, code)
				want, code = impl.EachTwo(int(sign), a, full)
				wantEachTwo(t, int(sign), a, scalar(x), want, code)
			}
		}
	}
}

func TestEachTwoAtTheLimit(t *testing.T) {
	rows := [][4]int{
		{'+', top - 1, 1, top}, {'+', 1 - top, -1, -top}, {'-', top - 1, -1, top}, {'-', 1 - top, 1, -top},
		{'-', 0, top, -top}, {'*', 1000000, 1000000, top}, {'*', 1000000, -1000000, -top}, {'*', 1000001, 999999, top - 1},
		{'*', top, -1, -top}, {'%', top, -1, -top}, {'%', -top, 1, -top}, {'|', 0, top, top}, {'|', top, -1, top - 1},
		{'&', -top, top, -top}, {'^', -top, top, top}}
	for _, r := range rows {
		wantEachTwo(t, r[0], vector(2, r[1], 3), vector(2, r[2], 1), vector(bySign(r[0], 2, 2), r[3], bySign(r[0], 3, 1)), impl.ErNone)
		wantEachTwo(t, r[0], scalar(r[1]), vector(r[2], r[2]), vector(r[3], r[3]), impl.ErNone)
		wantEachTwo(t, r[0], vector(r[1], r[1]), scalar(r[2]), vector(r[3], r[3]), impl.ErNone)
		wantEachTwo(t, r[0], scalar(r[1]), scalar(r[2]), scalar(r[3]), impl.ErNone)
	}
	beyond := [][3]int{{'+', top, 1}, {'+', -top, -1}, {'+', top, top}, {'-', top, -1}, {'-', -top, 1}, {'-', -top, top},
		{'*', 1000001, 1000000}, {'*', -1000001, 1000000}, {'*', 73, 13698630137}, {'*', 1 << 32, 1 << 32}, {'*', top, top}}
	for _, r := range beyond {
		wantEachTwo(t, r[0], vector(2, r[1], 3), vector(2, r[2], 1), impl.Array{}, impl.ErLimit)
		wantEachTwo(t, r[0], scalar(r[1]), vector(0, r[2]), impl.Array{}, impl.ErLimit)
		wantEachTwo(t, r[0], vector(0, r[1]), scalar(r[2]), impl.Array{}, impl.ErLimit)
		wantEachTwo(t, r[0], scalar(r[1]), scalar(r[2]), impl.Array{}, impl.ErLimit)
	}
}

func bySign(sign int, a int, b int) int {
	return int(bigTwo(byte(sign), a, b).Int64())
}

// A code counts at each place, alone or with others behind it.
func TestEachTwoWithACode(t *testing.T) {
	for _, shape := range append(smallShapes(), []int{300}, []int{10, 10, 3}) {
		for i := range wantedSize(shape) {
			for _, r := range [][4]int{{'%', 5, 0, impl.ErDomain}, {'%', 0, 0, impl.ErDomain}, {'+', top, top, impl.ErLimit},
				{'-', -top, top, impl.ErLimit}, {'*', top, -2, impl.ErLimit}} {
				a, b := repeated(shape, []int{3, 1}, 0), repeated(shape, []int{2, 1, -1}, 0)
				a.Data[i], b.Data[i] = r[1], r[2]
				wantEachTwo(t, r[0], a, b, impl.Array{}, r[3])
				last := len(a.Data) - 1
				a.Data[last], b.Data[last] = r[1], r[2]
				wantEachTwo(t, r[0], a, b, impl.Array{}, r[3])
			}
		}
	}
}

func TestEachTwoWithoutNumbers(t *testing.T) {
	for _, shape := range emptyShapes() {
		a := impl.Array{Shape: shape}
		for _, sign := range []byte(signsOfTwo) {
			wantEachTwo(t, int(sign), a, impl.Array{Shape: shape, Data: []int{}}, a, impl.ErNone)
			for _, x := range []int{0, 1, top, -top} {
				wantEachTwo(t, int(sign), a, scalar(x), a, impl.ErNone)
				wantEachTwo(t, int(sign), scalar(x), a, a, impl.ErNone)
			}
		}
		for _, sign := range wrongSigns(signsOfTwo) {
			wantEachTwo(t, sign, a, a, impl.Array{}, impl.ErBad)
			wantNoEachTwo(t, sign, a, scalar(0), impl.ErBad)
			wantNoEachTwo(t, sign, a, vector(1, 2), impl.ErBad)
		}
	}
}

// Arrays without numbers fit by their shapes too.
func TestEachTwoWithoutNumbersOfOtherShapes(t *testing.T) {
	for _, sign := range []byte(signsOfTwo) {
		wantNoEachTwo(t, int(sign), vector(), vector(1), impl.ErLength)
		wantNoEachTwo(t, int(sign), vector(), vector(0, 0), impl.ErLength)
		wantNoEachTwo(t, int(sign), impl.Array{Shape: []int{0, 2}}, impl.Array{Shape: []int{2, 0}}, impl.ErLength)
		wantNoEachTwo(t, int(sign), impl.Array{Shape: []int{0, 2}}, impl.Array{Shape: []int{0, 3}}, impl.ErLength)
		wantNoEachTwo(t, int(sign), impl.Array{Shape: []int{2, 0, 3}}, impl.Array{Shape: []int{2, 3, 0}}, impl.ErLength)
		wantNoEachTwo(t, int(sign), vector(), impl.Array{Shape: []int{0, 0}}, impl.ErRank)
		wantNoEachTwo(t, int(sign), vector(), impl.Array{Shape: []int{0, 0, 0}}, impl.ErRank)
		wantNoEachTwo(t, int(sign), impl.Array{Shape: []int{0, 0}}, impl.Array{Shape: []int{0, 0, 0}}, impl.ErRank)
	}
}

// The code of Fit comes ahead of those of the numbers, and ErRank ahead of
// ErLength.
func TestEachTwoOfWhatDoesNotFit(t *testing.T) {
	for _, p := range someShapes() {
		for _, q := range smallShapes() {
			if len(p) == 0 || len(q) == 0 || slices.Equal(p, q) {
				continue
			}
			code := impl.ErLength
			if len(p) != len(q) {
				code = impl.ErRank
			}
			wantNoEachTwo(t, '&', numberedArray(p), numberedArray(q), code)
			wantNoEachTwo(t, '%', repeated(p, []int{0}, 0), repeated(q, []int{0}, 0), code)
			wantNoEachTwo(t, '*', repeated(p, []int{top}, 0), repeated(q, []int{top}, 0), code)
			wantNoEachTwo(t, '~', numberedArray(p), numberedArray(q), impl.ErBad)
		}
	}
}

// partners has arrays that fit and that don't, whose numbers have codes.
func partners() []impl.Array {
	return []impl.Array{scalar(0), scalar(top), vector(), vector(0), vector(top, top), vector(0, 0, 0),
		repeated([]int{2, 3}, []int{0, top}, 0), {Shape: []int{0, 2}}, {Shape: []int{2, 0, 3}}, numberedArray([]int{2, 2, 2})}
}

func TestEachTwoOfWrongOnes(t *testing.T) {
	for _, a := range append(everyWrongArray(), impl.Array{}) {
		for _, b := range append(partners(), a) {
			for _, sign := range []byte("+%*~i") {
				wantNoEachTwo(t, int(sign), a, b, impl.ErBad)
			}
		}
	}
}

func TestEachTwoOfNoSign(t *testing.T) {
	for _, sign := range wrongSigns(signsOfTwo) {
		for _, a := range partners() {
			for _, b := range partners() {
				wantEachTwo(t, sign, a, b, impl.Array{}, impl.ErBad)
			}
		}
	}
}

// Each is held against the signs of its own number of numbers.
func TestSignsOfTheOtherKind(t *testing.T) {
	wantNoEachTwo(t, '~', vector(0, 1), vector(1, 1), impl.ErBad)
	wantNoEachTwo(t, '~', scalar(0), scalar(1), impl.ErBad)
	for _, sign := range []byte(signsOfTwo) {
		if strings.IndexByte(signsOfOne, sign) >= 0 {
			continue
		}
		wantEachOne(t, int(sign), vector(0, 1), impl.Array{}, impl.ErBad)
		wantEachOne(t, int(sign), scalar(1), impl.Array{}, impl.ErBad)
		wantEachTwo(t, int(sign), vector(1, 1), vector(1, 1), vector(bySign(int(sign), 1, 1), bySign(int(sign), 1, 1)), impl.ErNone)
	}
}

// pairsOfMemory has arrays that fit, that don't, and that are not right.
func pairsOfMemory() [][2]impl.Array {
	var list [][2]impl.Array
	for _, shape := range someShapes() {
		a := repeated(shape, []int{4, -9, 6, 3}, 0)
		list = append(list, [2]impl.Array{a, repeated(shape, []int{3, -2, 5, -7, 1}, 0)},
			[2]impl.Array{a, scalar(3)}, [2]impl.Array{scalar(3), a}, [2]impl.Array{a, repeated(shape, []int{0}, 0)},
			[2]impl.Array{a, vector(1, 2, 3)}, [2]impl.Array{a, {Shape: []int{2}, Data: []int{top + 1, 0}}})
	}
	return list
}

func TestEachWritesIntoNothing(t *testing.T) {
	for _, p := range pairsOfMemory() {
		g, h := guard(p[0]), guard(p[1])
		for _, sign := range []byte(signsOfTwo + "~i") {
			impl.EachOne(int(sign), g.array)
			impl.EachOne(int(sign), h.array)
			impl.Fit(g.array, h.array)
			impl.EachTwo(int(sign), g.array, h.array)
			impl.EachTwo(int(sign), g.array, g.array)
		}
		g.check(t)
		h.check(t)
	}
}

// wantOwnMemory writes over two answers of one call, and over the arguments:
// none of them may turn another one.
func wantOwnMemory(t *testing.T, made func() impl.Array, arguments ...guarded) {
	t.Helper()
	first, second, third := made(), made(), made()
	want := copied(first)
	scribble(first.Data)
	if !slices.Equal(first.Shape, want.Shape) {
		t.Error("Shape and Data of one answer share memory:", want)
	}
	scribble(second.Shape)
	if !slices.Equal(second.Data, want.Data) {
		t.Error("Shape and Data of one answer share memory:", want)
	}
	for _, g := range arguments {
		g.check(t)
	}
	for _, g := range arguments {
		scribble(g.shape)
		scribble(g.data)
	}
	if !alike(third, want) {
		t.Error("an answer shares memory with an argument or with another answer:", third, want)
	}
}

func TestEachIsNewMemory(t *testing.T) {
	for _, p := range pairsOfMemory() {
		for _, sign := range []byte("+-&%~") {
			g, h := guard(p[0]), guard(p[1])
			wantOwnMemory(t, func() impl.Array { x, _ := impl.EachOne(int(sign), g.array); return x }, g)
			g = guard(p[0])
			wantOwnMemory(t, func() impl.Array { x, _ := impl.EachTwo(int(sign), g.array, h.array); return x }, g, h)
			g = guard(p[0])
			wantOwnMemory(t, func() impl.Array { x, _ := impl.EachTwo(int(sign), g.array, g.array); return x }, g)
		}
		g, h := guard(p[0]), guard(p[1])
		wantOwnMemory(t, func() impl.Array { x, _ := impl.Fit(g.array, h.array); return impl.Array{Shape: x} }, g, h)
	}
}

// One list may be the Shape and the Data of an argument, and of both.
func TestEachOfOneList(t *testing.T) {
	list := []int{2, 5}
	a := impl.Array{Shape: list[:1], Data: list}
	wantEachOne(t, '-', a, vector(-2, -5), impl.ErNone)
	wantEachTwo(t, '*', a, a, vector(4, 25), impl.ErNone)
	wantEachTwo(t, '-', scalar(10), a, vector(8, 5), impl.ErNone)
	if !slices.Equal(list, []int{2, 5}) {
		t.Error("written into:", list)
	}
}

// An empty list and nil are the same value.
func TestEachOfEmptyLists(t *testing.T) {
	bare := impl.Array{Shape: []int{}, Data: []int{3}}
	wantFit(t, bare, vector(1, 2), []int{2}, impl.ErNone)
	wantFit(t, vector(1, 2), bare, []int{2}, impl.ErNone)
	wantEachTwo(t, '-', bare, vector(1, 2), vector(2, 1), impl.ErNone)
	wantEachTwo(t, '-', vector(1, 2), bare, vector(-2, -1), impl.ErNone)
	wantEachTwo(t, '-', bare, scalar(1), scalar(2), impl.ErNone)
	wantEachOne(t, '-', bare, scalar(-3), impl.ErNone)
}
