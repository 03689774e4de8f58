package tests

import (
	"fmt"
	"slices"
	"testing"

	"loop.example/g00182/impl"
)

func reduceBy(sign int) made {
	return ofOne(fmt.Sprint("Reduce by ", sign), func(a impl.Array) (impl.Array, int) { return impl.Reduce(sign, a) })
}

func scanBy(sign int) made {
	return ofOne(fmt.Sprint("Scan by ", sign), func(a impl.Array) (impl.Array, int) { return impl.Scan(sign, a) })
}

func outerBy(sign int) made {
	return made{fmt.Sprint("Outer by ", sign), func(a impl.Array, b impl.Array) (impl.Array, int) { return impl.Outer(sign, a, b) }}
}

func innerBy(f int, g int) made {
	return made{fmt.Sprint("Inner by ", f, " and ", g), func(a impl.Array, b impl.Array) (impl.Array, int) { return impl.Inner(f, g, a, b) }}
}

// alongRows has each function of one array by a sign; betweenTwo has those of
// two, with the sign as f, as g and as both.
func alongRows(sign int) []made { return []made{reduceBy(sign), scanBy(sign)} }

func betweenTwo(sign int) []made {
	return []made{outerBy(sign), innerBy(sign, '+'), innerBy('&', sign), innerBy(sign, sign)}
}

func TestOperatorsBySign(t *testing.T) {
	for _, c := range []struct {
		sign        int
		scan, outer []int
	}{
		{'+', []int{7, 4, 6}, []int{9, 12, -1, 2}},
		{'-', []int{7, 10, 12}, []int{5, 2, -5, -8}},
		{'*', []int{7, -21, -42}, []int{14, 35, -6, -15}},
		{'%', []int{7, -3, -4}, []int{3, 1, -2, -1}},
		{'|', []int{7, 4, 6}, []int{2, 5, -1, -1}},
		{'&', []int{7, -3, -3}, []int{2, 5, -3, -3}},
		{'^', []int{7, 7, 7}, []int{7, 7, 2, 5}},
		{'=', []int{7, 0, 0}, []int{0, 0, 0, 0}},
		{'<', []int{7, 0, 0}, []int{0, 0, 1, 1}},
		{'>', []int{7, 1, 1}, []int{1, 1, 0, 0}},
	} {
		scanBy(c.sign).wantOne(t, vector(7, -3, 2), vector(c.scan...), impl.ErNone)
		reduceBy(c.sign).wantOne(t, vector(7, -3, 2), scalar(c.scan[2]), impl.ErNone)
		reduceBy(c.sign).wantOne(t, vector(7, -3), scalar(c.scan[1]), impl.ErNone)
		outerBy(c.sign).want(t, vector(7, -3), vector(2, 5), inShape([]int{2, 2}, c.outer...), impl.ErNone)
	}
}

// From the last one on to the left: the other side would tell another number.
func TestFromWhichSide(t *testing.T) {
	reduceBy('-').wantOne(t, vector(5, 3, 1), scalar(3), impl.ErNone)
	reduceBy('-').wantOne(t, vector(1, 2, 3, 4), scalar(-2), impl.ErNone)
	reduceBy('%').wantOne(t, vector(100, 10, 2), scalar(20), impl.ErNone)
	reduceBy('%').wantOne(t, vector(-7, 9, 4), scalar(-4), impl.ErNone)
	reduceBy('|').wantOne(t, vector(10, 7, 12), scalar(5), impl.ErNone)
	reduceBy('=').wantOne(t, vector(0, 5, 6), scalar(1), impl.ErNone)
	reduceBy('<').wantOne(t, vector(3, 9, 4), scalar(0), impl.ErNone)
	reduceBy('>').wantOne(t, vector(1, 9, 9), scalar(1), impl.ErNone)
	scanBy('-').wantOne(t, vector(5, 3, 1, 10), vector(5, 2, 3, -7), impl.ErNone)
	scanBy('%').wantOne(t, vector(100, 30, 7, 2), vector(100, 3, 25, 10), impl.ErNone)
	innerBy('-', '*').want(t, vector(1, 2, 3), vector(4, 5, 6), scalar(12), impl.ErNone)
	innerBy('%', '-').want(t, vector(200, 11, 5), vector(100, 1, 3), scalar(20), impl.ErNone)
}

func TestReduceAndScanOfRows(t *testing.T) {
	m, cube := inShape([]int{3, 2}, 1, 20, 3, 40, 5, 60), inShape([]int{2, 2, 2}, 1, 2, 3, 4, 50, 60, 70, 80)
	reduceBy('+').wantOne(t, m, vector(9, 120), impl.ErNone)
	reduceBy('-').wantOne(t, m, vector(3, 40), impl.ErNone)
	reduceBy('-').wantOne(t, cube, inShape([]int{2, 2}, -49, -58, -67, -76), impl.ErNone)
	reduceBy('^').wantOne(t, inShape([]int{2, 3}, 1, 5, 3, 4, 2, 6), vector(4, 5, 6), impl.ErNone)
	scanBy('+').wantOne(t, m, inShape([]int{3, 2}, 1, 20, 4, 60, 9, 120), impl.ErNone)
	scanBy('-').wantOne(t, m, inShape([]int{3, 2}, 1, 20, -2, -20, 3, 40), impl.ErNone)
	scanBy('-').wantOne(t, cube, inShape([]int{2, 2, 2}, 1, 2, 3, 4, -49, -58, -67, -76), impl.ErNone)
}

func TestOuterOrdinary(t *testing.T) {
	m := inShape([]int{2, 2}, 1, 2, 3, 4)
	outerBy('*').want(t, vector(1, 2, 3), vector(4, 5), inShape([]int{3, 2}, 4, 5, 8, 10, 12, 15), impl.ErNone)
	outerBy('-').want(t, vector(10), m, inShape([]int{1, 2, 2}, 9, 8, 7, 6), impl.ErNone)
	outerBy('-').want(t, m, vector(10, 20), inShape([]int{2, 2, 2}, -9, -19, -8, -18, -7, -17, -6, -16), impl.ErNone)
	outerBy('-').want(t, scalar(10), m, inShape([]int{2, 2}, 9, 8, 7, 6), impl.ErNone)
	outerBy('-').want(t, m, scalar(10), inShape([]int{2, 2}, -9, -8, -7, -6), impl.ErNone)
	outerBy('%').want(t, scalar(7), scalar(-2), scalar(-4), impl.ErNone)
	outerBy('%').wantNone(t, vector(1, 2), vector(3, 0), impl.ErDomain)
	outerBy('+').wantNone(t, m, m, impl.ErRank)
	outerBy('+').wantNone(t, numberedArray([]int{151}), vector(1, 2), impl.ErLimit)
}

func TestInnerOrdinary(t *testing.T) {
	m, n := inShape([]int{2, 2}, 1, 2, 3, 4), inShape([]int{2, 3}, 1, 2, 3, 4, 5, 6)
	innerBy('+', '*').want(t, m, m, inShape([]int{2, 2}, 7, 10, 15, 22), impl.ErNone)
	innerBy('+', '*').want(t, m, n, inShape([]int{2, 3}, 9, 12, 15, 19, 26, 33), impl.ErNone)
	innerBy('+', '*').want(t, vector(1, 2), vector(3, 4), scalar(11), impl.ErNone)
	innerBy('+', '*').want(t, vector(1, 2), n, vector(9, 12, 15), impl.ErNone)
	innerBy('+', '*').want(t, n, vector(1, 0, -1), vector(-2, -2), impl.ErNone)
	innerBy('&', '+').want(t, m, m, inShape([]int{2, 2}, 2, 3, 4, 5), impl.ErNone)
	innerBy('^', '-').want(t, n, inShape([]int{3, 1}, 5, 5, 1), inShape([]int{2, 1}, 2, 5), impl.ErNone)
	innerBy('&', '=').want(t, n, vector(4, 5, 6), vector(0, 1), impl.ErNone)
	innerBy('+', '*').wantNone(t, vector(1, 2, 3), m, impl.ErLength)
	innerBy('+', '*').wantNone(t, n, m, impl.ErLength)
	innerBy('+', '*').wantNone(t, scalar(1), m, impl.ErRank)
	innerBy('+', '*').wantNone(t, m, inShape([]int{2, 1, 1}, 1, 2), impl.ErRank)
}

func neutralNumber(sign byte) int {
	return map[byte]int{'*': 1, '%': 1, '=': 1, '&': top, '^': -top}[sign]
}

// wantedReduce goes from the left: the first row, and what the others come to.
func wantedReduce(sign byte, rows []impl.Array) (impl.Array, int) {
	if len(rows) == 1 {
		return rows[0], impl.ErNone
	}
	rest, code := wantedReduce(sign, rows[1:])
	if code != impl.ErNone {
		return impl.Array{}, code
	}
	return wantedEachTwo(sign, rows[0], rest)
}

func wantedScan(sign byte, rows []impl.Array) (impl.Array, int) {
	var list []impl.Array
	for i := range rows {
		row, code := wantedReduce(sign, rows[:i+1])
		if code != impl.ErNone {
			return impl.Array{}, code
		}
		list = append(list, row)
	}
	return stacked(rows[0].Shape, list), impl.ErNone
}

// runsOfNumbers has lists by which long reductions come to something, by one
// sign or another, and lists by which they have a code.
func runsOfNumbers() [][]int {
	return [][]int{{3, -2, 5, -7, 1}, {1, -1, 1}, {2, 0, 1, 1}, {top, -top, 1, -1, 0}, rightNumbers()}
}

// signsFor has all signs, but one alone in turn where there are so many rows
// that the beginnings of all of them are long to go through.
func signsFor(shape []int, turn int) string {
	if shape[0] <= 20 {
		return signsOfTwo
	}
	at := turn % len(signsOfTwo)
	return signsOfTwo[at : at+1]
}

// Promise 7, with the model: rows are reductions of the beginnings.
func TestReduceAndScanOfEveryShape(t *testing.T) {
	for turn, shape := range everyShape() {
		if len(shape) == 0 || shape[0] == 0 {
			continue
		}
		for start, list := range runsOfNumbers() {
			a := repeated(shape, list, start)
			rows := wantedRows(a)
			for _, sign := range []byte(signsFor(shape, turn+start)) {
				want, code := wantedReduce(sign, rows)
				reduceBy(int(sign)).wantOne(t, a, want, code)
				want, code = wantedScan(sign, rows)
				scanBy(int(sign)).wantOne(t, a, want, code)
			}
		}
	}
}

func TestReduceAndScanOfSmallOnes(t *testing.T) {
	for long := 1; long <= 4; long++ {
		everyList([]int{0, 1, -1, 2, -3, top, -top}, long, func(list []int) {
			a := vector(list...)
			rows := wantedRows(a)
			for _, sign := range []byte(signsOfTwo) {
				want, code := wantedReduce(sign, rows)
				reduceBy(int(sign)).wantOne(t, a, want, code)
				want, code = wantedScan(sign, rows)
				scanBy(int(sign)).wantOne(t, a, want, code)
			}
		})
	}
}

// Promise 7: the last row of a scan is the reduction, each other one that of
// the rows up to it, and the first one the first row.
func TestLastRowOfAScan(t *testing.T) {
	for _, shape := range [][]int{{1}, {2}, {7}, {60}, {3, 4}, {4, 0}, {17, 17}, {1, 300}, {2, 3, 4}, {10, 10, 3}, {5, 0, 300}, {3, 1, 1}} {
		a := repeated(shape, []int{1, 1, -1}, 0)
		for _, sign := range []byte(signsOfTwo) {
			scan := scanBy(int(sign)).of(t, a, a)
			reduceBy(int(sign)).wantOne(t, a, pick.of(t, scalar(-1), scan), impl.ErNone)
			pick.want(t, scalar(0), scan, pick.of(t, scalar(0), a), impl.ErNone)
			for n := range shape[0] {
				beginning := take.of(t, scalar(n+1), a)
				reduceBy(int(sign)).wantOne(t, beginning, pick.of(t, scalar(n), scan), impl.ErNone)
				take.want(t, scalar(n+1), scan, scanBy(int(sign)).of(t, beginning, beginning), impl.ErNone)
			}
		}
	}
}

func TestReduceOfNoRows(t *testing.T) {
	for _, shape := range [][]int{{0}, {0, 0}, {0, 1}, {0, 2}, {0, 300}, {0, 0, 0}, {0, 2, 3}, {0, 0, 300}, {0, 300, 0},
		{0, 1, 1}, {0, 1, 300}, {0, 15, 20}, {0, 17, 17}, {0, 2, 150}} {
		for _, sign := range []byte(signsOfTwo) {
			reduceBy(int(sign)).wantOne(t, inShape(shape), repeated(shape[1:], []int{neutralNumber(sign)}, 0), impl.ErNone)
		}
	}
}

// A row of which there is none may extend further than a shape does: there is
// no array of it, of noughts or of others.
func TestReduceToNoShape(t *testing.T) {
	for _, shape := range [][]int{{0, 300, 300}, {0, 300, 2}, {0, 2, 151}, {0, 7, 43}, {0, 17, 18}} {
		for _, sign := range []byte(signsOfTwo) {
			reduceBy(int(sign)).wantOne(t, inShape(shape), impl.Array{}, impl.ErLimit)
			scanBy(int(sign)).wantOne(t, inShape(shape), inShape(shape), impl.ErNone)
		}
	}
}

func TestScanOfNoRows(t *testing.T) {
	for _, shape := range everyShape() {
		for _, sign := range []byte(signsOfTwo) {
			if len(shape) > 0 && shape[0] == 0 {
				scanBy(int(sign)).wantOne(t, inShape(shape), inShape(shape), impl.ErNone)
			}
		}
	}
}

// Rows without numbers are there: no neutral number stands for them.
func TestRowsOfNoNumbers(t *testing.T) {
	for _, shape := range [][]int{{1, 0}, {2, 0}, {300, 0}, {3, 0, 2}, {3, 2, 0}, {300, 300, 0}, {2, 0, 300}} {
		for _, sign := range []byte(signsFor(shape, shape[0]+shape[1])) {
			reduceBy(int(sign)).wantOne(t, inShape(shape), inShape(shape[1:]), impl.ErNone)
			scanBy(int(sign)).wantOne(t, inShape(shape), inShape(shape), impl.ErNone)
		}
	}
}

func TestOneRowAndRankNought(t *testing.T) {
	for _, sign := range []byte(signsOfTwo) {
		for _, x := range rightNumbers() {
			for _, m := range alongRows(int(sign)) {
				m.wantOne(t, scalar(x), scalar(x), impl.ErNone)
				m.wantOne(t, inShape([]int{}, x), scalar(x), impl.ErNone)
			}
			reduceBy(int(sign)).wantOne(t, vector(x), scalar(x), impl.ErNone)
			scanBy(int(sign)).wantOne(t, vector(x), vector(x), impl.ErNone)
		}
		for _, shape := range [][]int{{1, 1}, {1, 0}, {1, 7}, {1, 300}, {1, 1, 1}, {1, 2, 3}, {1, 15, 20}, {1, 0, 300}, {1, 300, 0}} {
			a := repeated(shape, []int{0, top, -top, 5}, 0)
			reduceBy(int(sign)).wantOne(t, a, inShape(shape[1:], a.Data...), impl.ErNone)
			scanBy(int(sign)).wantOne(t, a, a, impl.ErNone)
		}
	}
}

func TestReduceAndScanAtTheLimit(t *testing.T) {
	none := impl.Array{}
	for _, c := range []struct {
		sign         int
		a            impl.Array
		reduce, scan impl.Array
	}{
		{'+', vector(top-1, 1), scalar(top), vector(top-1, top)},
		{'+', vector(1-top, -1), scalar(-top), vector(1-top, -top)},
		{'+', vector(top, 1), none, none},
		{'+', vector(top, -1, 1), scalar(top), vector(top, top-1, top)},
		{'-', vector(0, top), scalar(-top), vector(0, -top)},
		{'-', vector(-1, top), none, none},
		{'-', vector(top, top, top), scalar(top), vector(top, 0, top)},
		{'*', vector(1000000, 1000000), scalar(top), vector(1000000, top)},
		{'*', vector(1000000, 1000001), none, none},
		{'*', vector(-1, 1, top), scalar(-top), vector(-1, -1, -top)},
		{'*', vector(1<<32, 1<<32), none, none},
		{'&', vector(top, -top), scalar(-top), vector(top, -top)},
		{'^', vector(-top, top), scalar(top), vector(-top, top)},
		{'|', vector(0, top), scalar(top), vector(0, top)},
		{'%', vector(top, -1), scalar(-top), vector(top, -top)},
		{'+', inShape([]int{2, 2}, top-1, 1-top, 1, -1), vector(top, -top), inShape([]int{2, 2}, top-1, 1-top, top, -top)},
		{'+', inShape([]int{2, 2}, top-1, -top, 1, -1), none, none},
	} {
		code := impl.ErNone
		if alike(c.reduce, none) {
			code = impl.ErLimit
		}
		reduceBy(c.sign).wantOne(t, c.a, c.reduce, code)
		scanBy(c.sign).wantOne(t, c.a, c.scan, code)
	}
}

// Whether there is a code at all hangs on the side from which it goes, and on
// which rows meet: of a scan those of each beginning.
func TestCodesOfReduceAndScan(t *testing.T) {
	for _, c := range []struct {
		sign         int
		list         []int
		reduce, scan int
	}{
		{'+', []int{top, 1, -1}, impl.ErNone, impl.ErLimit}, {'+', []int{-1, 1, top}, impl.ErLimit, impl.ErLimit},
		{'+', []int{top, -1, 1}, impl.ErNone, impl.ErNone}, {'+', []int{-1, top, 1}, impl.ErLimit, impl.ErLimit},
		{'+', []int{1, -1, top}, impl.ErNone, impl.ErNone}, {'-', []int{top, -1, -1}, impl.ErNone, impl.ErLimit},
		{'-', []int{1, top, -1}, impl.ErLimit, impl.ErLimit}, {'-', []int{-top, 1, 1}, impl.ErNone, impl.ErLimit},
		{'*', []int{0, top, top}, impl.ErLimit, impl.ErLimit}, {'*', []int{top, top, 0}, impl.ErNone, impl.ErLimit},
		{'*', []int{top, 0, top}, impl.ErNone, impl.ErNone}, {'%', []int{5, 0}, impl.ErDomain, impl.ErDomain},
		{'%', []int{0, 5}, impl.ErNone, impl.ErNone}, {'%', []int{5, 0, 5}, impl.ErDomain, impl.ErDomain},
		{'%', []int{5, 3, 7}, impl.ErDomain, impl.ErDomain}, {'%', []int{5, 7, 3}, impl.ErNone, impl.ErNone},
		{'%', []int{9, 2, 3, 5, 9}, impl.ErDomain, impl.ErDomain}, {'%', []int{9, 8, 9, 4}, impl.ErNone, impl.ErDomain},
		{'%', []int{0, 0}, impl.ErDomain, impl.ErDomain}, {'|', []int{0, 0, 0}, impl.ErNone, impl.ErNone},
	} {
		if _, code := impl.Reduce(c.sign, vector(c.list...)); code != c.reduce {
			t.Errorf("Reduce(%d, %v) has the code %d; want %d", c.sign, c.list, code, c.reduce)
		}
		if _, code := impl.Scan(c.sign, vector(c.list...)); code != c.scan {
			t.Errorf("Scan(%d, %v) has the code %d; want %d", c.sign, c.list, code, c.scan)
		}
	}
}

// A code counts in each row but the first one, and in each column of it.
func TestCodesOfEachRow(t *testing.T) {
	for _, shape := range [][]int{{5}, {30}, {3, 4}, {4, 3, 2}, {2, 1, 5}} {
		first := wantedSize(shape[1:])
		for place := range wantedSize(shape) {
			a, b := repeated(shape, []int{1}, 0), repeated(shape, []int{0}, 0)
			a.Data[place], b.Data[place] = 0, top
			for _, m := range alongRows('%') {
				want := impl.ErDomain
				if place < first {
					want = impl.ErNone
				}
				if _, code := m.does(a, a); code != want {
					t.Errorf("%s of %v has the code %d; want %d", m.name, a, code, want)
				}
			}
			b.Data[place%first] = top
			for _, m := range alongRows('+') {
				if _, code := m.does(b, b); (code == impl.ErLimit) != (place >= first) {
					t.Errorf("%s of %v has the code %d", m.name, b, code)
				}
			}
		}
	}
}

// wantedOuter puts each number at the index of both.
func wantedOuter(sign byte, a impl.Array, b impl.Array) (impl.Array, int) {
	shape := slices.Concat(a.Shape, b.Shape)
	if len(shape) > 3 {
		return impl.Array{}, impl.ErRank
	}
	if wantedSize(shape) < 0 {
		return impl.Array{}, impl.ErLimit
	}
	x := repeated(shape, []int{0}, 0)
	for place, index := range listedIndexes(shape) {
		left, _ := impl.NumAt(a, index[:len(a.Shape)])
		right, _ := impl.NumAt(b, index[len(a.Shape):])
		n, code := wantedTwo(sign, left, right)
		if code != impl.ErNone {
			return impl.Array{}, code
		}
		x.Data[place] = n
	}
	return x, impl.ErNone
}

// Promise 7: between all each stands with each.
func TestOuterOfEveryTwoShapes(t *testing.T) {
	for i, one := range everyShape() {
		for j, other := range everyShape() {
			sign := signsOfTwo[(i+j)%len(signsOfTwo)]
			for k, list := range [][]int{numbered(40), runsOfNumbers()[(i+j)%4]} {
				a, b := repeated(one, list, i), repeated(other, list, j+k)
				want, code := wantedOuter(sign, a, b)
				outerBy(int(sign)).want(t, a, b, want, code)
			}
		}
	}
}

func TestOuterByEachSign(t *testing.T) {
	for i, one := range smallShapes() {
		for j, other := range smallShapes() {
			for _, list := range runsOfNumbers() {
				a, b := repeated(one, list, i), repeated(other, list, j+1)
				for _, sign := range []byte(signsOfTwo) {
					want, code := wantedOuter(sign, a, b)
					outerBy(int(sign)).want(t, a, b, want, code)
				}
			}
		}
	}
	for _, x := range rightNumbers() {
		for _, sign := range []byte(signsOfTwo) {
			a, b := scalar(x), vector(rightNumbers()...)
			want, code := wantedOuter(sign, a, b)
			outerBy(int(sign)).want(t, a, b, want, code)
			want, code = wantedOuter(sign, b, a)
			outerBy(int(sign)).want(t, b, a, want, code)
		}
	}
}

// With rank 0 on a side it is the sign on each number, as element by element.
func TestOuterWithRankNought(t *testing.T) {
	for _, shape := range everyShape() {
		a := repeated(shape, []int{4, -9, 6, 3, 11}, 0)
		for _, sign := range []byte(signsOfTwo) {
			want, code := impl.EachTwo(int(sign), scalar(13), a)
			outerBy(int(sign)).want(t, scalar(13), a, want, code)
			want, code = impl.EachTwo(int(sign), a, scalar(13))
			outerBy(int(sign)).want(t, a, scalar(13), want, code)
		}
	}
}

func TestOuterAtTheLimits(t *testing.T) {
	for _, c := range []struct {
		a, b []int
		code int
	}{
		{[]int{300}, []int{}, impl.ErNone}, {[]int{}, []int{300}, impl.ErNone}, {[]int{300}, []int{1}, impl.ErNone}, {[]int{1}, []int{300}, impl.ErNone},
		{[]int{150}, []int{2}, impl.ErNone}, {[]int{151}, []int{2}, impl.ErLimit}, {[]int{2}, []int{151}, impl.ErLimit}, {[]int{15}, []int{20}, impl.ErNone},
		{[]int{7}, []int{43}, impl.ErLimit}, {[]int{17}, []int{17}, impl.ErNone}, {[]int{17}, []int{18}, impl.ErLimit}, {[]int{300}, []int{2}, impl.ErLimit},
		{[]int{300}, []int{300}, impl.ErLimit}, {[]int{10, 10}, []int{3}, impl.ErNone}, {[]int{10, 10}, []int{4}, impl.ErLimit}, {[]int{3}, []int{10, 10}, impl.ErNone},
		{[]int{4}, []int{10, 10}, impl.ErLimit}, {[]int{10, 10, 3}, []int{}, impl.ErNone}, {[]int{}, []int{3, 10, 10}, impl.ErNone}, {[]int{300, 1}, []int{1}, impl.ErNone},
		{[]int{300, 1}, []int{300}, impl.ErLimit}, {[]int{0}, []int{300}, impl.ErNone}, {[]int{300}, []int{0}, impl.ErNone}, {[]int{300, 0}, []int{300}, impl.ErNone},
		{[]int{300}, []int{300, 0}, impl.ErNone}, {[]int{0, 300}, []int{300}, impl.ErNone}, {[]int{300}, []int{0, 300}, impl.ErNone}, {[]int{0, 0}, []int{0}, impl.ErNone},
		{[]int{0, 300, 300}, []int{}, impl.ErNone}, {[]int{}, []int{300, 300, 0}, impl.ErNone},
		{[]int{1, 1}, []int{1, 1}, impl.ErRank}, {[]int{0, 0}, []int{0, 0}, impl.ErRank}, {[]int{1, 1, 1}, []int{1}, impl.ErRank}, {[]int{1}, []int{1, 1, 1}, impl.ErRank},
		{[]int{1, 1, 1}, []int{1, 1, 1}, impl.ErRank}, {[]int{0}, []int{0, 0, 0}, impl.ErRank}, {[]int{17, 17}, []int{17, 17}, impl.ErRank}, {[]int{300}, []int{300, 1, 1}, impl.ErRank},
	} {
		// By noughts there would be a code at the first place.
		for _, sign := range []byte("+%") {
			a, b := repeated(c.a, []int{3, 1}, 0), repeated(c.b, []int{2, -1}, 0)
			want, code := wantedOuter(sign, a, b)
			if code != c.code {
				t.Fatal("the test itself reckons wrongly:", c, code)
			}
			outerBy(int(sign)).want(t, a, b, want, code)
			if c.code != impl.ErNone {
				outerBy(int(sign)).wantNone(t, a, repeated(c.b, []int{0}, 0), code)
				outerBy(int(sign)).wantNone(t, repeated(c.a, []int{top}, 0), repeated(c.b, []int{top}, 0), code)
			}
		}
	}
}

// A code counts wherever two meet: here just once.
func TestOuterWithACode(t *testing.T) {
	for _, one := range [][]int{{}, {1}, {4}, {2, 3}, {2, 2, 2}} {
		for _, other := range [][]int{{}, {1}, {5}, {3, 2}} {
			if len(one)+len(other) > 3 {
				continue
			}
			for i := range wantedSize(one) {
				for j := range wantedSize(other) {
					a, b := repeated(one, []int{0}, 0), repeated(other, []int{0}, 0)
					a.Data[i], b.Data[j] = top, 1
					outerBy('+').wantNone(t, a, b, impl.ErLimit)
					outerBy('%').wantNone(t, a, repeated(other, []int{0}, 0), impl.ErDomain)
					b.Data[j] = -1
					outerBy('-').wantNone(t, a, b, impl.ErLimit)
					b.Data[j] = 2
					outerBy('*').wantNone(t, a, b, impl.ErLimit)
				}
			}
		}
	}
	outerBy('%').want(t, vector(), vector(0, 0), inShape([]int{0, 2}), impl.ErNone)
	outerBy('%').wantNone(t, scalar(1), scalar(0), impl.ErDomain)
}

// wantedNumber is one number of an inner product, of its row and its column.
func wantedNumber(f byte, g byte, row []int, column []int) (int, int) {
	if len(row) == 0 {
		return neutralNumber(f), impl.ErNone
	}
	pairs, code := wantedEachTwo(g, vector(row...), vector(column...))
	if code != impl.ErNone {
		return 0, code
	}
	x, code := wantedReduce(f, wantedRows(pairs))
	if code != impl.ErNone {
		return 0, code
	}
	return x.Data[0], impl.ErNone
}

func wantedInner(f byte, g byte, a impl.Array, b impl.Array) (impl.Array, int) {
	if len(a.Shape)%3 == 0 || len(b.Shape)%3 == 0 {
		return impl.Array{}, impl.ErRank
	}
	rest, long := a.Shape[:len(a.Shape)-1], b.Shape[0]
	if a.Shape[len(rest)] != long {
		return impl.Array{}, impl.ErLength
	}
	x := impl.Array{Shape: slices.Concat(rest, b.Shape[1:])}
	if wantedSize(x.Shape) < 0 {
		return impl.Array{}, impl.ErLimit
	}
	for _, index := range listedIndexes(x.Shape) {
		row, column := make([]int, long), make([]int, long)
		for k := range long {
			row[k], _ = impl.NumAt(a, slices.Concat(index[:len(rest)], []int{k}))
			column[k], _ = impl.NumAt(b, slices.Concat([]int{k}, index[len(rest):]))
		}
		n, code := wantedNumber(f, g, row, column)
		if code != impl.ErNone {
			return impl.Array{}, code
		}
		x.Data = append(x.Data, n)
	}
	return x, impl.ErNone
}

func wantInnerAsModel(t *testing.T, f byte, g byte, a impl.Array, b impl.Array) {
	t.Helper()
	want, code := wantedInner(f, g, a, b)
	innerBy(int(f), int(g)).want(t, a, b, want, code)
}

func TestInnerOfEveryTwoShapes(t *testing.T) {
	for i, one := range everyShape() {
		for j, other := range everyShape() {
			f, g := signsOfTwo[(i+j)%10], signsOfTwo[(3*i+j)%10]
			list := runsOfNumbers()[(i+2*j)%5]
			wantInnerAsModel(t, f, g, repeated(one, list, i), repeated(other, list, j))
			wantInnerAsModel(t, '+', '*', numberedArray(one), repeated(other, []int{3, -1, 2}, j))
		}
	}
}

// vectorsAndMatrices has the shapes of both sides that meet along so many
// numbers.
func vectorsAndMatrices(long int) (left [][]int, right [][]int) {
	left, right = [][]int{{long}}, [][]int{{long}}
	for _, n := range []int{0, 1, 2, 5} {
		left, right = append(left, []int{n, long}), append(right, []int{long, n})
	}
	return left, right
}

func TestInnerByEachTwoSigns(t *testing.T) {
	for _, long := range []int{0, 1, 2, 4} {
		left, right := vectorsAndMatrices(long)
		for i, one := range left {
			for j, other := range right {
				for _, f := range []byte(signsOfTwo) {
					for k, g := range []byte(signsOfTwo) {
						list := runsOfNumbers()[(i+j+k)%5]
						wantInnerAsModel(t, f, g, repeated(one, list, k), repeated(other, list, j+1))
					}
				}
			}
		}
	}
}

// Each number is the reduction of what is done to a row and a column, as the
// other functions tell them.
func TestInnerAsReduction(t *testing.T) {
	a, b := inShape([]int{3, 4}, 5, -2, 7, 1, 0, 3, -6, 8, 9, 4, -1, 2), inShape([]int{4, 2}, 3, -1, 2, 6, -4, 5, 1, -7)
	columns := impl.Rows(flip.of(t, b, b))
	for _, f := range []byte("+-*|&^=<>") {
		for _, g := range []byte("+-*%|&^=<>") {
			made := innerBy(int(f), int(g)).of(t, a, b)
			for i, row := range impl.Rows(a) {
				for j, column := range columns {
					pairs, _ := impl.EachTwo(int(g), row, column)
					x, code := impl.Reduce(int(f), pairs)
					if code != impl.ErNone {
						t.Error("no reduction:", f, g, pairs, code)
						continue
					}
					wantNum(t, made, []int{i, j}, x.Data[0], true)
					innerBy(int(f), int(g)).want(t, row, column, x, impl.ErNone)
				}
			}
		}
	}
}

// Nought numbers along what is reduced: f alone tells what comes.
func TestInnerAlongNothing(t *testing.T) {
	for _, f := range []byte(signsOfTwo) {
		for _, g := range []byte(signsOfTwo) {
			m, n := innerBy(int(f), int(g)), neutralNumber(f)
			m.want(t, vector(), vector(), scalar(n), impl.ErNone)
			m.want(t, inShape([]int{2, 0}), vector(), vector(n, n), impl.ErNone)
			m.want(t, vector(), inShape([]int{0, 2}), vector(n, n), impl.ErNone)
			m.want(t, inShape([]int{2, 0}), inShape([]int{0, 3}), repeated([]int{2, 3}, []int{n}, 0), impl.ErNone)
			m.want(t, inShape([]int{0, 0}), inShape([]int{0, 3}), inShape([]int{0, 3}), impl.ErNone)
			m.want(t, inShape([]int{0, 2}), vector(0, 0), vector(), impl.ErNone)
			m.want(t, vector(0, 0), inShape([]int{2, 0}), vector(), impl.ErNone)
			m.want(t, inShape([]int{2, 2}, 0, 0, 0, 0), inShape([]int{2, 0}), inShape([]int{2, 0}), impl.ErNone)
			m.want(t, inShape([]int{0, 2}), inShape([]int{2, 2}, 0, 0, 0, 0), inShape([]int{0, 2}), impl.ErNone)
			m.want(t, inShape([]int{0, 300}), inShape([]int{300, 0}), inShape([]int{0, 0}), impl.ErNone)
			m.wantNone(t, vector(), vector(0), impl.ErLength)
			m.wantNone(t, inShape([]int{0, 2}), inShape([]int{0, 2}), impl.ErLength)
		}
	}
}

func TestInnerAtTheLimits(t *testing.T) {
	for _, c := range []struct {
		a, b []int
		code int
	}{
		{[]int{300, 1}, []int{1}, impl.ErNone}, {[]int{1}, []int{1, 300}, impl.ErNone}, {[]int{300, 0}, []int{0}, impl.ErNone}, {[]int{0}, []int{0, 300}, impl.ErNone},
		{[]int{300, 1}, []int{1, 1}, impl.ErNone}, {[]int{300, 0}, []int{0, 1}, impl.ErNone}, {[]int{15, 1}, []int{1, 20}, impl.ErNone}, {[]int{150, 2}, []int{2, 2}, impl.ErNone},
		{[]int{150, 0}, []int{0, 2}, impl.ErNone}, {[]int{17, 17}, []int{17, 17}, impl.ErNone}, {[]int{300}, []int{300}, impl.ErNone}, {[]int{1, 300}, []int{300, 1}, impl.ErNone},
		{[]int{300}, []int{300, 1}, impl.ErNone}, {[]int{1, 300}, []int{300}, impl.ErNone}, {[]int{300, 0}, []int{0, 0}, impl.ErNone},
		{[]int{7, 1}, []int{1, 43}, impl.ErLimit}, {[]int{43, 0}, []int{0, 7}, impl.ErLimit}, {[]int{17, 0}, []int{0, 18}, impl.ErLimit}, {[]int{151, 1}, []int{1, 2}, impl.ErLimit},
		{[]int{150, 2}, []int{2, 3}, impl.ErLimit}, {[]int{300, 0}, []int{0, 300}, impl.ErLimit}, {[]int{300, 1}, []int{1, 300}, impl.ErLimit}, {[]int{300, 0}, []int{0, 2}, impl.ErLimit},
		{[]int{300, 0}, []int{1, 300}, impl.ErLength}, {[]int{300, 1}, []int{0, 300}, impl.ErLength}, {[]int{7, 1}, []int{2, 43}, impl.ErLength}, {[]int{300}, []int{299}, impl.ErLength},
		{[]int{299}, []int{300}, impl.ErLength}, {[]int{2, 3}, []int{2, 3}, impl.ErLength}, {[]int{2, 3}, []int{2}, impl.ErLength}, {[]int{1}, []int{}, impl.ErRank},
		{[]int{}, []int{1}, impl.ErRank}, {[]int{}, []int{}, impl.ErRank}, {[]int{2, 2, 2}, []int{2}, impl.ErRank}, {[]int{2}, []int{2, 2, 2}, impl.ErRank},
		{[]int{2, 2}, []int{3, 3, 3}, impl.ErRank}, {[]int{}, []int{300}, impl.ErRank}, {[]int{10, 10, 3}, []int{3, 100}, impl.ErRank}, {[]int{0, 300, 300}, []int{300, 0}, impl.ErRank},
	} {
		a, b := repeated(c.a, []int{3, 1}, 0), repeated(c.b, []int{2, -1}, 0)
		if _, code := wantedInner('+', '*', a, b); code != c.code {
			t.Fatal("the test itself reckons wrongly:", c, code)
		}
		wantInnerAsModel(t, '+', '*', a, b)
		wantInnerAsModel(t, '&', '-', a, b)
		if c.code != impl.ErNone {
			// Codes of the numbers come behind those of the shapes.
			innerBy('+', '%').wantNone(t, a, repeated(c.b, []int{0}, 0), c.code)
			innerBy('+', '*').wantNone(t, repeated(c.a, []int{top}, 0), repeated(c.b, []int{top}, 0), c.code)
		}
	}
}

func TestInnerOfNumbersAtTheLimit(t *testing.T) {
	innerBy('+', '*').want(t, vector(1000000, 1), vector(999999, 1000000), scalar(top), impl.ErNone)
	innerBy('+', '*').wantNone(t, vector(1000000, 1), vector(999999, 1000001), impl.ErLimit)
	innerBy('+', '*').wantNone(t, vector(1000000), vector(1000001), impl.ErLimit)
	innerBy('+', '*').want(t, vector(1000000), vector(-1000000), scalar(-top), impl.ErNone)
	innerBy('-', '+').want(t, vector(top, top), vector(0, 0), scalar(0), impl.ErNone)
	innerBy('-', '+').wantNone(t, vector(-1, top), vector(0, 0), impl.ErLimit)
	innerBy('^', '-').want(t, vector(0, 0), vector(top, -top), scalar(top), impl.ErNone)
}

// The first place with a code counts; at one place g's count ahead of f's,
// wherever along the row they stand.
func TestInnerWhichCodeIsFirst(t *testing.T) {
	for _, c := range []struct {
		f, g byte
		a, b impl.Array
		code int
	}{
		{'+', '%', vector(top, top, 5), vector(1, 1, 0), impl.ErDomain},
		{'+', '%', vector(5, top, top), vector(0, 1, 1), impl.ErDomain},
		{'+', '%', vector(5, top, top), vector(1, 1, 1), impl.ErLimit},
		{'%', '+', vector(top, 1, 0), vector(top, 0, 0), impl.ErLimit},
		{'%', '+', vector(1, 0, top), vector(0, 0, top), impl.ErLimit},
		{'%', '+', vector(1, 0), vector(0, 0), impl.ErDomain},
		{'+', '%', inShape([]int{1, 2}, top, top), inShape([]int{2, 2}, 1, 0, 1, 1), impl.ErLimit},
		{'+', '%', inShape([]int{1, 2}, top, top), inShape([]int{2, 2}, 0, 1, 1, 1), impl.ErDomain},
		{'+', '%', vector(top, top), inShape([]int{2, 3}, 2, 1, 0, -1, 1, 0), impl.ErLimit},
		{'+', '%', vector(top, top), inShape([]int{2, 3}, 2, 0, 1, -1, 1, 1), impl.ErDomain},
		{'%', '*', inShape([]int{2, 2}, 1, 0, top, top), vector(1, 2), impl.ErDomain},
		{'%', '*', inShape([]int{2, 2}, top, top, 1, 0), vector(1, 2), impl.ErLimit},
		{'%', '*', inShape([]int{2, 2}, 2, 1, top, 0), inShape([]int{2, 2}, 1, 3, 1, 4), impl.ErDomain},
		{'%', '*', inShape([]int{2, 2}, 2, 1, top, 0), inShape([]int{2, 2}, 3, 1, 4, 1), impl.ErLimit},
	} {
		if _, code := wantedInner(c.f, c.g, c.a, c.b); code != c.code {
			t.Fatal("the test itself reckons wrongly:", c, code)
		}
		innerBy(int(c.f), int(c.g)).wantNone(t, c.a, c.b, c.code)
	}
}

func TestOperatorsOfWrongOnes(t *testing.T) {
	for _, sign := range []byte("+%i") {
		refuseWrongOnes(t, alongRows(int(sign)), betweenTwo(int(sign)))
	}
}

// A sign that Two does not know counts ahead of all else, as f and as g, and
// where no number asks for it.
func TestOperatorsOfNoSign(t *testing.T) {
	for _, sign := range append(wrongSigns(signsOfTwo), '~', 'i', '/') {
		for _, a := range partners() {
			for _, m := range alongRows(sign) {
				m.wantOne(t, a, impl.Array{}, impl.ErBad)
			}
			for _, b := range partners() {
				for _, m := range betweenTwo(sign) {
					m.wantNone(t, a, b, impl.ErBad)
				}
			}
		}
	}
}

// pairsToMeet has an array of each shape beside ones with which there is an
// answer of one function or another, and ones with which there is none.
func pairsToMeet() [][2]impl.Array {
	var list [][2]impl.Array
	for _, shape := range everyShape() {
		b := repeated(shape, []int{1, -1, 1}, 0)
		for _, a := range []impl.Array{scalar(3), vector(2, 5), vector(), b, inShape([]int{2, 1}, 4, 6), inShape([]int{2}, top+1, 0),
			repeated(asRows(b).Shape[:1], []int{2, -1}, 0)} {
			list = append(list, [2]impl.Array{a, b}, [2]impl.Array{b, a})
		}
	}
	return list
}

func TestBetweenTwoIsNewMemory(t *testing.T) {
	for _, sign := range []byte("-&%") {
		wantNewMemory(t, betweenTwo(int(sign)), pairsToMeet())
	}
}

// The array itself, and its one row, are copied too.
func TestAlongRowsIsNewMemory(t *testing.T) {
	for turn, shape := range everyShape() {
		for _, sign := range []byte(signsFor(asRows(impl.Array{Shape: shape}).Shape, turn)) {
			for _, m := range alongRows(int(sign)) {
				g := guard(repeated(shape, []int{1, 1, -1}, 0))
				wantOwnMemory(t, func() impl.Array { x, _ := m.does(g.array, g.array); return x }, g)
			}
		}
	}
}

func TestWhatOperatorsAnswerIsRight(t *testing.T) {
	for _, sign := range []byte(signsOfTwo) {
		wantRightOrNothing(t, append(betweenTwo(int(sign)), reduceBy(int(sign))), pairsToMeet())
	}
}

// An empty list and nil are the same value.
func TestOperatorsOfEmptyLists(t *testing.T) {
	bare, none := inShape([]int{}, 4), impl.Array{Shape: []int{0}, Data: []int{}}
	reduceBy('-').wantOne(t, bare, scalar(4), impl.ErNone)
	reduceBy('*').wantOne(t, none, scalar(1), impl.ErNone)
	scanBy('-').wantOne(t, bare, scalar(4), impl.ErNone)
	scanBy('-').wantOne(t, none, vector(), impl.ErNone)
	outerBy('-').want(t, bare, vector(1, 2), vector(3, 2), impl.ErNone)
	outerBy('-').want(t, bare, bare, scalar(0), impl.ErNone)
	outerBy('-').want(t, none, bare, vector(), impl.ErNone)
	innerBy('+', '-').want(t, none, none, scalar(0), impl.ErNone)
	innerBy('+', '-').wantNone(t, bare, vector(1), impl.ErRank)
}

// One list may be the Shape and the Data of an argument, and of both.
func TestOperatorsOfOneList(t *testing.T) {
	list, one := []int{2, 2, 7, 5}, []int{1}
	v, m, n := impl.Array{Shape: list[:1], Data: list[:2]}, impl.Array{Shape: list[:2], Data: list}, impl.Array{Shape: one, Data: one}
	for _, c := range []struct {
		m    made
		a, b impl.Array
		want impl.Array
	}{
		{reduceBy('-'), v, v, scalar(0)}, {reduceBy('-'), m, m, vector(-5, -3)}, {reduceBy('-'), n, n, scalar(1)},
		{scanBy('+'), v, v, vector(2, 4)}, {scanBy('+'), m, m, inShape([]int{2, 2}, 2, 2, 9, 7)}, {scanBy('+'), n, n, vector(1)},
		{outerBy('*'), v, v, inShape([]int{2, 2}, 4, 4, 4, 4)}, {outerBy('-'), n, m, inShape([]int{1, 2, 2}, -1, -1, -6, -4)},
		{innerBy('+', '*'), m, m, inShape([]int{2, 2}, 18, 14, 49, 39)}, {innerBy('+', '*'), v, m, vector(18, 14)}, {innerBy('+', '*'), n, n, scalar(1)},
	} {
		if x, code := c.m.does(c.a, c.b); code != impl.ErNone || !alike(x, c.want) {
			t.Errorf("%s of %v and %v = %v, %d; want %v", c.m.name, c.a, c.b, x, code, c.want)
		}
	}
	if !slices.Equal(list, []int{2, 2, 7, 5}) || one[0] != 1 {
		t.Error("written into:", list, one)
	}
}
