package tests

import (
	"slices"
	"testing"

	"loop.example/g00182/impl"
)

var (
	pick   = made{"Pick", impl.Pick}
	find   = made{"Find", impl.Find}
	grade  = ofOne("Grade", impl.Grade)
	copies = made{"Copy", impl.Copy}
	within = made{"Within", impl.Within}
)

func lookersOfTwo() []made { return []made{pick, find, copies, within} }

func lookers() []made { return append(lookersOfTwo(), grade) }

func TestPickOrdinary(t *testing.T) {
	v, m := vector(10, 11, 12), inShape([]int{2, 3}, 1, 2, 3, 4, 5, 6)
	pick.want(t, scalar(1), v, scalar(11), impl.ErNone)
	pick.want(t, scalar(-1), v, scalar(12), impl.ErNone)
	pick.want(t, vector(2, 0, -3, 2), v, vector(12, 10, 10, 12), impl.ErNone)
	pick.want(t, inShape([]int{2, 2}, 0, 1, -1, -2), v, inShape([]int{2, 2}, 10, 11, 12, 11), impl.ErNone)
	pick.want(t, scalar(1), m, vector(4, 5, 6), impl.ErNone)
	pick.want(t, vector(1), m, inShape([]int{1, 3}, 4, 5, 6), impl.ErNone)
	pick.want(t, vector(-1, 0, 1), m, inShape([]int{3, 3}, 4, 5, 6, 1, 2, 3, 4, 5, 6), impl.ErNone)
	pick.want(t, inShape([]int{2, 1}, 0, -1), m, inShape([]int{2, 1, 3}, 1, 2, 3, 4, 5, 6), impl.ErNone)
	pick.want(t, scalar(-2), inShape([]int{2, 2, 2}, 1, 2, 3, 4, 5, 6, 7, 8), inShape([]int{2, 2}, 1, 2, 3, 4), impl.ErNone)
	pick.want(t, vector(), v, vector(), impl.ErNone)
	pick.want(t, vector(), m, inShape([]int{0, 3}), impl.ErNone)
	pick.wantNone(t, scalar(0), scalar(5), impl.ErRank)
	pick.wantNone(t, scalar(3), v, impl.ErIndex)
	pick.wantNone(t, scalar(-4), v, impl.ErIndex)
	pick.wantNone(t, vector(0, 0, 2), m, impl.ErIndex)
}

// wantedPick is told the rows of b, counts from the end by turning them, and
// asks for each code over the whole of a ahead of the next one.
func wantedPick(a impl.Array, b impl.Array, rows []impl.Array) (impl.Array, int) {
	if len(b.Shape) == 0 || len(a.Shape)-1+len(b.Shape) > 3 {
		return impl.Array{}, impl.ErRank
	}
	turned := slices.Clone(rows)
	slices.Reverse(turned)
	x := impl.Array{Shape: slices.Concat(a.Shape, b.Shape[1:])}
	for _, n := range a.Data {
		list := rows
		if n < 0 {
			n, list = -n-1, turned
		}
		if n >= len(list) {
			return impl.Array{}, impl.ErIndex
		}
		x.Data = append(x.Data, list[n].Data...)
	}
	if wantedSize(x.Shape) < 0 {
		return impl.Array{}, impl.ErLimit
	}
	return x, impl.ErNone
}

// rowNumbers has the numbers of each row, from either end.
func rowNumbers(count int) []int {
	var list []int
	for n := range count {
		list = append(list, n, -n-1)
	}
	return list
}

// notRowNumbers begins with the first number behind the last row, and the
// first one ahead of the first row.
func notRowNumbers(count int) []int {
	return []int{count, -count - 1, count + 1, -count - 2, 2 * count, -2*count - 1, 2*count + 1, 301, -302, 1 << 32, -1 << 32, top - 1, top, -top}
}

// Each shape of b is picked from by an array of each shape, by all of its
// rows in turn, and by numbers some of which are of no row.
func TestPickOfEveryTwoShapes(t *testing.T) {
	for _, other := range everyShape() {
		b := numberedArray(other)
		rows := wantedRows(asRows(b))
		there := append(rowNumbers(len(rows)), 0)[:max(1, 2*len(rows))]
		some := append(slices.Clone(there), notRowNumbers(len(rows))...)
		for start, one := range everyShape() {
			for _, list := range [][]int{there, some, {0}, {-1}} {
				a := repeated(one, list, start)
				want, code := wantedPick(a, b, rows)
				pick.want(t, a, b, want, code)
			}
		}
	}
}

func TestPickEachRow(t *testing.T) {
	for _, shape := range everyShape() {
		if len(shape) == 0 {
			continue
		}
		b := numberedArray(shape)
		rows := wantedRows(b)
		for n, row := range rows {
			pick.want(t, scalar(n), b, row, impl.ErNone)
			pick.want(t, scalar(n-len(rows)), b, row, impl.ErNone)
			pick.want(t, vector(n), b, stacked(shape[1:], []impl.Array{row}), impl.ErNone)
			pick.want(t, vector(n-len(rows)), b, stacked(shape[1:], []impl.Array{row}), impl.ErNone)
		}
		for _, n := range notRowNumbers(len(rows)) {
			pick.wantNone(t, scalar(n), b, impl.ErIndex)
			pick.wantNone(t, vector(n), b, impl.ErIndex)
		}
		pick.want(t, iotaOf.of(t, b, scalar(shape[0])), b, b, impl.ErNone)
	}
}

// One number without a row counts wherever it stands.
func TestPickOfOneRowThatIsNotThere(t *testing.T) {
	b := vector(7, 8, 9)
	for _, shape := range [][]int{{}, {1}, {5}, {300}, {2, 3}, {2, 2, 2}} {
		for _, n := range notRowNumbers(3) {
			for place := range wantedSize(shape) {
				a := repeated(shape, []int{0, -1, 2, -3}, 0)
				a.Data[place] = n
				pick.wantNone(t, a, b, impl.ErIndex)
			}
		}
	}
}

// The ranks count ahead of the numbers, and these ahead of how many come.
func TestPickWhichCodeIsFirst(t *testing.T) {
	for _, c := range []struct {
		a, b []int
		n    int
		code int
	}{
		{[]int{2, 2}, []int{2, 2}, 0, impl.ErNone}, {[]int{2, 2}, []int{2, 2}, 2, impl.ErIndex}, {[]int{2, 2, 2}, []int{2}, 1, impl.ErNone},
		{[]int{2}, []int{2, 2, 2}, 0, impl.ErNone}, {[]int{}, []int{2, 2, 2}, 0, impl.ErNone},
		{[]int{2, 2, 2}, []int{2, 2}, 0, impl.ErRank}, {[]int{2, 2, 2}, []int{2, 2}, 2, impl.ErRank}, {[]int{2, 2}, []int{2, 2, 2}, 0, impl.ErRank},
		{[]int{2, 2}, []int{2, 2, 2}, -3, impl.ErRank}, {[]int{1, 1, 1}, []int{1, 1, 1}, 0, impl.ErRank}, {[]int{1, 1, 1}, []int{1, 1, 1}, top, impl.ErRank},
		{[]int{0, 0}, []int{2, 2, 2}, 0, impl.ErRank}, {[]int{0, 0, 0}, []int{0, 0}, 0, impl.ErRank},
		{[]int{}, []int{}, 0, impl.ErRank}, {[]int{0}, []int{}, 0, impl.ErRank}, {[]int{3}, []int{}, 5, impl.ErRank}, {[]int{300}, []int{}, -2, impl.ErRank},
		{[]int{2, 2, 2}, []int{}, 0, impl.ErRank}, {[]int{15, 20}, []int{15, 20}, 0, impl.ErLimit}, {[]int{15, 20}, []int{15, 20}, 15, impl.ErIndex},
		{[]int{300}, []int{2, 2}, -2, impl.ErLimit}, {[]int{300}, []int{2, 2}, -3, impl.ErIndex}, {[]int{300}, []int{1, 1, 300}, 1, impl.ErIndex},
		{[]int{300}, []int{1, 1, 300}, 0, impl.ErLimit}, {[]int{150, 2}, []int{10, 10, 3}, 10, impl.ErRank}, {[]int{2}, []int{0, 300, 300}, 0, impl.ErIndex},
		{[]int{1}, []int{0, 300, 300}, -1, impl.ErIndex}, {[]int{0}, []int{0, 300, 300}, 0, impl.ErNone}, {[]int{0, 2}, []int{0, 300, 300}, 0, impl.ErRank},
	} {
		a, b := repeated(c.a, []int{c.n}, 0), numberedArray(c.b)
		want, code := wantedPick(a, b, wantedRows(asRows(b)))
		if code != c.code {
			t.Fatal("the test itself reckons wrongly:", c, code)
		}
		pick.want(t, a, b, want, code)
	}
}

func TestPickAtTheLimit(t *testing.T) {
	for _, c := range []struct {
		a, b []int
		code int
	}{
		{[]int{300}, []int{1}, impl.ErNone}, {[]int{300}, []int{300}, impl.ErNone}, {[]int{300}, []int{7, 1}, impl.ErNone}, {[]int{150}, []int{7, 2}, impl.ErNone},
		{[]int{151}, []int{7, 2}, impl.ErLimit}, {[]int{300}, []int{2, 2}, impl.ErLimit}, {[]int{17}, []int{3, 17}, impl.ErNone}, {[]int{17}, []int{3, 18}, impl.ErLimit},
		{[]int{7}, []int{2, 43}, impl.ErLimit}, {[]int{7}, []int{2, 42}, impl.ErNone}, {[]int{3}, []int{1, 10, 10}, impl.ErNone}, {[]int{4}, []int{1, 10, 10}, impl.ErLimit},
		{[]int{10, 10}, []int{4, 3}, impl.ErNone}, {[]int{10, 10}, []int{4, 4}, impl.ErLimit}, {[]int{1}, []int{1, 300}, impl.ErNone}, {[]int{2}, []int{1, 300}, impl.ErLimit},
		{[]int{}, []int{1, 300}, impl.ErNone}, {[]int{1, 1}, []int{1, 300}, impl.ErNone}, {[]int{300}, []int{5, 0}, impl.ErNone}, {[]int{300}, []int{5, 0, 300}, impl.ErNone},
		{[]int{15, 20}, []int{5, 0}, impl.ErNone}, {[]int{300, 300, 0}, []int{5}, impl.ErNone}, {[]int{300, 0}, []int{1, 300}, impl.ErNone}, {[]int{0}, []int{1, 300, 1}, impl.ErNone},
	} {
		a, b := repeated(c.a, []int{0, -1}, 0), numberedArray(c.b)
		want, code := wantedPick(a, b, wantedRows(b))
		if code != c.code {
			t.Fatal("the test itself reckons wrongly:", c, code)
		}
		pick.want(t, a, b, want, code)
	}
}

// By no numbers there is an answer wherever the ranks allow it: of arrays
// without rows, and of ones whose rows alone would be no shape.
func TestPickByNoNumbers(t *testing.T) {
	for _, one := range emptyShapes() {
		for _, other := range everyShape() {
			a, b := numberedArray(one), numberedArray(other)
			if len(other) == 0 || len(one)+len(other) > 4 {
				pick.wantNone(t, a, b, impl.ErRank)
			} else {
				pick.want(t, a, b, inShape(slices.Concat(one, other[1:])), impl.ErNone)
			}
		}
	}
}

func TestFindOrdinary(t *testing.T) {
	v := vector(5, 6, 5, -7)
	find.want(t, v, vector(5, 6, 7, -7), vector(0, 1, 4, 3), impl.ErNone)
	find.want(t, v, scalar(6), scalar(1), impl.ErNone)
	find.want(t, v, scalar(0), scalar(4), impl.ErNone)
	find.want(t, v, inShape([]int{2, 2}, 6, 5, 8, 6), inShape([]int{2, 2}, 1, 0, 4, 1), impl.ErNone)
	find.want(t, v, inShape([]int{1, 2, 1}, -7, 7), inShape([]int{1, 2, 1}, 3, 4), impl.ErNone)
	find.want(t, vector(), vector(0, 5), vector(0, 0), impl.ErNone)
	find.want(t, vector(), scalar(0), scalar(0), impl.ErNone)
	find.want(t, v, vector(), vector(), impl.ErNone)
	find.want(t, vector(9), vector(9, 0), vector(0, 1), impl.ErNone)
	find.want(t, vector(top, -top), vector(-top, top, 0), vector(1, 0, 2), impl.ErNone)
	find.wantNone(t, scalar(5), vector(5), impl.ErRank)
	find.wantNone(t, inShape([]int{2, 2}, 1, 2, 3, 4), vector(1), impl.ErRank)
}

// somePiles has vectors with numbers once, more than once, and none.
func somePiles() []impl.Array {
	list := []impl.Array{vector(), vector(0), vector(4, 4), vector(top, -top, top, 0)}
	for _, long := range []int{1, 2, 7, 50, 299, 300} {
		list = append(list, numberedArray([]int{long}), repeated([]int{long}, []int{3}, 0),
			repeated([]int{long}, []int{2, -1, 2, 0, top, 3, -1}, 1), repeated([]int{long}, numbered(40), 5))
	}
	return list
}

// numbersToLookFor has the numbers of an array, first and last ones too, and
// ones beside them.
func numbersToLookFor(a impl.Array) []int {
	list := append([]int{0, 3, -1, top, -top}, numbered(3)...)
	for i := range a.Data {
		x := a.Data[(i*7)%len(a.Data)]
		list = append(list, x, min(x+1, top), -x)
	}
	return list
}

func wantedFind(a impl.Array, b impl.Array) impl.Array {
	x := copied(b)
	for i, n := range b.Data {
		x.Data[i] = 0
		for x.Data[i] < len(a.Data) && a.Data[x.Data[i]] != n {
			x.Data[i]++
		}
	}
	return x
}

func TestFindInEveryShape(t *testing.T) {
	for _, a := range somePiles() {
		list := numbersToLookFor(a)
		for start, shape := range everyShape() {
			b := repeated(shape, list, start)
			find.want(t, a, b, wantedFind(a, b), impl.ErNone)
		}
	}
}

// Promise 6: what is found stands there, and not earlier; what is not there
// is told by a place that there is none.
func TestWhatIsFoundStandsThere(t *testing.T) {
	for _, a := range somePiles() {
		for list := range slices.Chunk(numbersToLookFor(a), impl.MaxSize) {
			for i, place := range find.of(t, a, vector(list...)).Data {
				if place < 0 || place > len(a.Data) || slices.Contains(a.Data[:place], list[i]) {
					t.Errorf("%d is found at %d of %v", list[i], place, a.Data)
				} else if place < len(a.Data) {
					pick.want(t, scalar(place), a, scalar(list[i]), impl.ErNone)
				}
			}
		}
		pick.want(t, find.of(t, a, a), a, a, impl.ErNone)
	}
}

func TestFindInNoVector(t *testing.T) {
	for _, shape := range everyShape() {
		for _, b := range partners() {
			if len(shape) != 1 {
				find.wantNone(t, numberedArray(shape), b, impl.ErRank)
			}
		}
	}
}

func TestGradeOrdinary(t *testing.T) {
	grade.wantOne(t, vector(3, 1, 2), vector(1, 2, 0), impl.ErNone)
	grade.wantOne(t, vector(3, 1, 2, 1), vector(1, 3, 2, 0), impl.ErNone)
	grade.wantOne(t, vector(), vector(), impl.ErNone)
	grade.wantOne(t, vector(9), vector(0), impl.ErNone)
	grade.wantOne(t, vector(5, 5, 5), vector(0, 1, 2), impl.ErNone)
	grade.wantOne(t, vector(0, -1, 1, -2), vector(3, 1, 0, 2), impl.ErNone)
	grade.wantOne(t, vector(top, -top, 0, top, -top), vector(1, 4, 2, 0, 3), impl.ErNone)
}

// wantedGrade takes the place of the least number that is left, again and again.
func wantedGrade(a impl.Array) impl.Array {
	left, x := map[int]int{}, vector()
	for place, n := range a.Data {
		left[place] = n
	}
	for len(left) > 0 {
		least := -1
		for place := range a.Data {
			if n, ok := left[place]; ok && (least < 0 || n < left[least]) {
				least = place
			}
		}
		delete(left, least)
		x.Data = append(x.Data, least)
	}
	x.Shape[0] = len(x.Data)
	return x
}

func TestGradeOfSmallOnes(t *testing.T) {
	for long := range 6 {
		everyList([]int{-top, -2, 0, 1, top}, long, func(list []int) {
			grade.wantOne(t, vector(list...), wantedGrade(vector(list...)), impl.ErNone)
		})
	}
	for _, a := range somePiles() {
		grade.wantOne(t, a, wantedGrade(a), impl.ErNone)
	}
}

// Promise 6: graded and picked a vector ascends, and has the numbers that it
// had; alike ones are told in their order.
func TestGradedAndPickedItAscends(t *testing.T) {
	for _, a := range somePiles() {
		order := grade.of(t, a, a)
		for i := 1; i < len(order.Data); i++ {
			before, behind := order.Data[i-1], order.Data[i]
			if a.Data[before] > a.Data[behind] || a.Data[before] == a.Data[behind] && before >= behind {
				t.Errorf("the places %d and %d of %v are told in this order", before, behind, a.Data)
			}
		}
		sorted := vector(slices.Sorted(slices.Values(a.Data))...)
		pick.want(t, order, a, sorted, impl.ErNone)
		grade.wantOne(t, sorted, iotaOf.of(t, a, scalar(len(a.Data))), impl.ErNone)
		grade.wantOne(t, order, wantedGrade(order), impl.ErNone)
	}
}

// A map has no order: what is told is the same each time.
func TestGradeAgainAndAgain(t *testing.T) {
	a := repeated([]int{300}, numbered(97), 11)
	want := wantedGrade(a)
	for range 100 {
		grade.wantOne(t, a, want, impl.ErNone)
	}
}

func TestGradeOfNoVector(t *testing.T) {
	for _, shape := range everyShape() {
		if len(shape) != 1 {
			grade.wantOne(t, numberedArray(shape), impl.Array{}, impl.ErRank)
		}
	}
}

func TestCopyOrdinary(t *testing.T) {
	v, m := vector(7, 8, 9), inShape([]int{2, 2}, 1, 2, 3, 4)
	copies.want(t, vector(2, 0, 1), v, vector(7, 7, 9), impl.ErNone)
	copies.want(t, vector(0, 1, 0), v, vector(8), impl.ErNone)
	copies.want(t, scalar(2), v, vector(7, 7, 8, 8, 9, 9), impl.ErNone)
	copies.want(t, vector(2), v, vector(7, 7, 8, 8, 9, 9), impl.ErNone)
	copies.want(t, vector(1, 2), m, inShape([]int{3, 2}, 1, 2, 3, 4, 3, 4), impl.ErNone)
	copies.want(t, vector(0, 1), m, inShape([]int{1, 2}, 3, 4), impl.ErNone)
	copies.want(t, scalar(0), m, inShape([]int{0, 2}), impl.ErNone)
	copies.want(t, vector(0, 2), inShape([]int{2, 1, 2}, 1, 2, 3, 4), inShape([]int{2, 1, 2}, 3, 4, 3, 4), impl.ErNone)
	copies.want(t, vector(), vector(), vector(), impl.ErNone)
	copies.want(t, vector(5), vector(), vector(), impl.ErNone)
	copies.want(t, vector(), inShape([]int{0, 3}), inShape([]int{0, 3}), impl.ErNone)
	copies.wantNone(t, vector(1, 2), v, impl.ErLength)
	copies.wantNone(t, vector(), v, impl.ErLength)
	copies.wantNone(t, vector(1, 1), vector(), impl.ErLength)
	copies.wantNone(t, vector(1, -1, 1), v, impl.ErDomain)
	copies.wantNone(t, scalar(1), scalar(5), impl.ErRank)
	copies.wantNone(t, m, v, impl.ErRank)
}

// wantedCopy is told the rows of b, and lays each on the pile one by one,
// until it is known to be too high.
func wantedCopy(a impl.Array, b impl.Array, rows []impl.Array) (impl.Array, int) {
	if len(a.Shape) > 1 || len(b.Shape) == 0 {
		return impl.Array{}, impl.ErRank
	}
	times := a.Data
	if len(times) == 1 {
		times = slices.Repeat(times, len(rows))
	}
	if len(times) != len(rows) {
		return impl.Array{}, impl.ErLength
	}
	if len(a.Data) > 0 && slices.Min(a.Data) < 0 {
		return impl.Array{}, impl.ErDomain
	}
	var pile []impl.Array
	for i, n := range times {
		for ; n > 0 && len(pile) <= 300; n-- {
			pile = append(pile, rows[i])
		}
	}
	x := stacked(b.Shape[1:], pile)
	if wantedSize(x.Shape) < 0 {
		return impl.Array{}, impl.ErLimit
	}
	return x, impl.ErNone
}

func TestCopyOfEveryShape(t *testing.T) {
	for _, shape := range everyShape() {
		b := numberedArray(shape)
		rows := wantedRows(asRows(b))
		for start, list := range [][]int{{0}, {1}, {2}, {0, 1}, {1, 0, 0}, {2, 0, 1}, {0, 0, 0, 3}, {150}, {300, 0}, {301}, {top}, {-1}, {1, -1}, {top, 0, -top}} {
			for _, long := range []int{0, 1, 2, len(rows) - 1, len(rows), len(rows) + 1} {
				if long < 0 || long > 300 {
					continue
				}
				a := repeated([]int{long}, list, start)
				want, code := wantedCopy(a, b, rows)
				copies.want(t, a, b, want, code)
			}
			a := scalar(list[0])
			want, code := wantedCopy(a, b, rows)
			copies.want(t, a, b, want, code)
		}
	}
}

func TestCopyByAnyNumbers(t *testing.T) {
	for _, shape := range [][]int{{0}, {1}, {2}, {3}, {4}, {3, 2}, {2, 0}, {4, 17}, {2, 2, 2}, {3, 0, 300}, {2, 5, 30}} {
		b := numberedArray(shape)
		rows := wantedRows(b)
		for long := range 5 {
			everyList([]int{0, 1, 3, 100, 300, top, -1}, long, func(list []int) {
				a := vector(slices.Clone(list)...)
				want, code := wantedCopy(a, b, rows)
				copies.want(t, a, b, want, code)
			})
		}
	}
}

// Promise 6: by ones it is the array itself, by noughts nothing of it, by one
// number for all each row as often; and what is copied is picked by the
// number of its row, as often as told.
func TestWhatIsCopied(t *testing.T) {
	for _, shape := range everyShape() {
		if len(shape) == 0 {
			continue
		}
		b := numberedArray(shape)
		copies.want(t, scalar(1), b, b, impl.ErNone)
		copies.want(t, vector(1), b, b, impl.ErNone)
		copies.want(t, repeated(shape[:1], []int{1}, 0), b, b, impl.ErNone)
		none := inShape(append([]int{0}, shape[1:]...))
		copies.want(t, scalar(0), b, none, impl.ErNone)
		copies.want(t, vector(0), b, none, impl.ErNone)
		copies.want(t, repeated(shape[:1], []int{0}, 0), b, none, impl.ErNone)
		often := repeated(shape[:1], []int{2, 0, 1, 1}, 1)
		var list []int
		for i, n := range often.Data {
			list = append(list, slices.Repeat([]int{i}, n)...)
		}
		if len(b.Data) <= 200 && len(list) <= 300 {
			copies.want(t, often, b, pick.of(t, vector(list...), b), impl.ErNone)
		}
	}
}

func TestCopyAtTheLimit(t *testing.T) {
	for _, c := range []struct {
		shape []int
		most  int
	}{
		{[]int{1}, 300}, {[]int{2}, 150}, {[]int{7}, 42}, {[]int{299}, 1}, {[]int{300}, 1}, {[]int{1, 300}, 1}, {[]int{1, 17}, 17}, {[]int{2, 17}, 8},
		{[]int{1, 10, 10}, 3}, {[]int{1, 0}, 300}, {[]int{3, 0}, 100}, {[]int{1, 300, 0}, 300}, {[]int{150, 0, 300}, 2}, {[]int{1, 151}, 1},
	} {
		b := numberedArray(c.shape)
		for _, n := range []int{c.most, c.most + 1, 1 << 32, 1 << 39, top} {
			for _, a := range []impl.Array{scalar(n), vector(n), repeated(c.shape[:1], []int{n}, 0)} {
				want, code := wantedCopy(a, b, wantedRows(b))
				if (code == impl.ErNone) != (n == c.most) {
					t.Fatal("the test itself reckons wrongly:", c, n, code)
				}
				copies.want(t, a, b, want, code)
			}
		}
	}
	copies.want(t, vector(299, 1), vector(5, 6), vector(append(slices.Repeat([]int{5}, 299), 6)...), impl.ErNone)
	copies.wantNone(t, vector(299, 2), vector(5, 6), impl.ErLimit)
	copies.wantNone(t, vector(1, 300), vector(5, 6), impl.ErLimit)
}

// Of an array without rows there is an answer by any right number for all,
// whatever its rows would be.
func TestCopyOfNoRows(t *testing.T) {
	for _, shape := range [][]int{{0}, {0, 0}, {0, 3}, {0, 300}, {0, 2, 3}, {0, 300, 300}, {0, 0, 300}} {
		b := inShape(shape)
		for _, n := range []int{0, 1, 2, 300, 301, top} {
			copies.want(t, scalar(n), b, b, impl.ErNone)
			copies.want(t, vector(n), b, b, impl.ErNone)
			copies.wantNone(t, vector(n, n), b, impl.ErLength)
		}
		copies.want(t, vector(), b, b, impl.ErNone)
		copies.wantNone(t, scalar(-1), b, impl.ErDomain)
		copies.wantNone(t, vector(-top), b, impl.ErDomain)
	}
}

// The ranks count ahead of how many numbers there are, that ahead of which
// they are, and that, wherever one below nought stands, ahead of what is too
// great.
func TestCopyWhichCodeIsFirst(t *testing.T) {
	for _, shape := range everyShape() {
		for _, n := range []int{0, 1, -1, 301, top, -top} {
			a := repeated(shape, []int{n}, 0)
			copies.wantNone(t, a, scalar(5), impl.ErRank)
			if len(shape) > 1 {
				copies.wantNone(t, a, vector(1, 2, 3), impl.ErRank)
				copies.wantNone(t, a, inShape([]int{0, 2}), impl.ErRank)
				copies.wantNone(t, a, a, impl.ErRank)
			}
		}
	}
	for _, n := range []int{0, 1, -1, 301, top, -top} {
		copies.wantNone(t, vector(n, n), vector(1, 2, 3), impl.ErLength)
		copies.wantNone(t, vector(n, n, n, n), vector(1, 2, 3), impl.ErLength)
		copies.wantNone(t, vector(n, n, n, n), inShape([]int{2, 2}, 1, 2, 3, 4), impl.ErLength)
	}
	for place := range 5 {
		for _, n := range []int{-1, -2, -top} {
			a := vector(0, 1, 300, 301, top)
			copies.wantNone(t, a, vector(1, 2, 3, 4, 5), impl.ErLimit)
			a.Data[place] = n
			copies.wantNone(t, a, vector(1, 2, 3, 4, 5), impl.ErDomain)
		}
	}
}

func TestWithinOrdinary(t *testing.T) {
	m := inShape([]int{2, 2}, 1, 2, 3, 4)
	within.want(t, m, vector(2, 3), inShape([]int{2, 2}, 0, 1, 1, 0), impl.ErNone)
	within.want(t, vector(2, 5, -2, 2), m, vector(1, 0, 0, 1), impl.ErNone)
	within.want(t, scalar(3), m, scalar(1), impl.ErNone)
	within.want(t, scalar(0), m, scalar(0), impl.ErNone)
	within.want(t, vector(3, 4), scalar(4), vector(0, 1), impl.ErNone)
	within.want(t, scalar(4), scalar(4), scalar(1), impl.ErNone)
	within.want(t, vector(0, 1), vector(), vector(0, 0), impl.ErNone)
	within.want(t, scalar(0), inShape([]int{2, 0, 2}), scalar(0), impl.ErNone)
	within.want(t, vector(), m, vector(), impl.ErNone)
	within.want(t, inShape([]int{0, 300, 300}), inShape([]int{3, 0}), inShape([]int{0, 300, 300}), impl.ErNone)
	within.want(t, vector(top, -top), vector(-top, top-1), vector(0, 1), impl.ErNone)
}

func wantedWithin(a impl.Array, b impl.Array) impl.Array {
	x := copied(a)
	for i, n := range a.Data {
		x.Data[i] = 0
		for _, m := range b.Data {
			if n == m {
				x.Data[i] = 1
			}
		}
	}
	return x
}

func TestWithinOfEveryTwoShapes(t *testing.T) {
	for _, other := range everyShape() {
		b := repeated(other, []int{5, -6, 0, 7, top, 1007, -1007, 3, 5}, 2)
		list := append(numbersToLookFor(b), 4, 6, -5, 1)
		for start, one := range everyShape() {
			a := repeated(one, list, start)
			within.want(t, a, b, wantedWithin(a, b), impl.ErNone)
		}
	}
}

// Each number of an array is within it, and within its numbers in a row.
func TestWithinItself(t *testing.T) {
	for _, shape := range everyShape() {
		for _, a := range []impl.Array{numberedArray(shape), repeated(shape, []int{0, 0, 4}, 0)} {
			ones := repeated(shape, []int{1}, 0)
			within.want(t, a, a, ones, impl.ErNone)
			within.want(t, a, ravel.of(t, a, a), ones, impl.ErNone)
			within.want(t, a, inShape([]int{0}), repeated(shape, []int{0}, 0), impl.ErNone)
		}
	}
}

// What is within a vector is what is found at one of its places.
func TestWithinAsFound(t *testing.T) {
	for _, b := range somePiles() {
		a := repeated([]int{10, 10, 3}, numbersToLookFor(b), 0)
		found := find.of(t, b, a)
		for i, is := range within.of(t, a, b).Data {
			if (is == 1) != (found.Data[i] < len(b.Data)) {
				t.Errorf("%d is within %v: %d, but found at %d", a.Data[i], b.Data, is, found.Data[i])
			}
		}
	}
}

func TestLookingOfWrongOnes(t *testing.T) {
	refuseWrongOnes(t, []made{grade}, lookersOfTwo())
}

// pairsToLook has those that are made of, and ones with rows to be told.
func pairsToLook() [][2]impl.Array {
	list := pairsToMake()
	for _, shape := range everyShape() {
		b := numberedArray(shape)
		for _, a := range []impl.Array{vector(0, 0), scalar(-1), repeated(asRows(b).Shape[:1], []int{0, 1}, 0), inShape([]int{2, 2}, 0, -1, -1, 0), vector(b.Data...)} {
			list = append(list, [2]impl.Array{a, b}, [2]impl.Array{b, a})
		}
	}
	return list
}

func TestLookingIsNewMemory(t *testing.T) {
	wantNewMemory(t, lookers(), pairsToLook())
}

func TestWhatIsLookedForIsRight(t *testing.T) {
	wantRightOrNothing(t, lookers(), pairsToLook())
}

// An empty list and nil are the same value.
func TestLookingOfEmptyLists(t *testing.T) {
	bare, none := inShape([]int{}, 1), impl.Array{Shape: []int{0}, Data: []int{}}
	pick.want(t, bare, vector(5, 6), scalar(6), impl.ErNone)
	pick.want(t, none, vector(5, 6), vector(), impl.ErNone)
	find.want(t, none, bare, scalar(0), impl.ErNone)
	grade.wantOne(t, none, vector(), impl.ErNone)
	grade.wantOne(t, bare, impl.Array{}, impl.ErRank)
	copies.want(t, bare, vector(5, 6), vector(5, 6), impl.ErNone)
	copies.want(t, none, none, vector(), impl.ErNone)
	copies.wantNone(t, vector(1), bare, impl.ErRank)
	within.want(t, bare, none, scalar(0), impl.ErNone)
	within.want(t, bare, bare, scalar(1), impl.ErNone)
}

// One list may be the Shape and the Data of an argument, and of both.
func TestLookingOfOneList(t *testing.T) {
	list, one := []int{2, 0}, []int{1}
	a, n := impl.Array{Shape: list[:1], Data: list}, impl.Array{Shape: one, Data: one}
	for _, c := range []struct {
		m    made
		a, b impl.Array
		want impl.Array
	}{
		{find, a, a, vector(0, 1)}, {grade, a, a, vector(1, 0)}, {copies, a, a, vector(2, 2)}, {within, a, a, vector(1, 1)},
		{pick, n, a, vector(0)}, {find, n, a, vector(1, 1)}, {copies, n, a, vector(2, 0)}, {within, n, a, vector(0)},
		{find, n, n, vector(0)}, {grade, n, n, vector(0)}, {copies, n, n, vector(1)}, {within, n, n, vector(1)},
	} {
		if x, code := c.m.does(c.a, c.b); code != impl.ErNone || !alike(x, c.want) {
			t.Errorf("%s(%v, %v) = %v, %d; want %v", c.m.name, c.a, c.b, x, code, c.want)
		}
	}
	if !slices.Equal(list, []int{2, 0}) || one[0] != 1 {
		t.Error("written into:", list, one)
	}
}
