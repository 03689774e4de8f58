package tests

import (
	"slices"
	"testing"

	"loop.example/g00182/impl"
)

// made is a function that makes an array of one or two, with the name that a
// failure tells; those of one array have it as b, and leave a alone.
type made struct {
	name string
	does func(a impl.Array, b impl.Array) (impl.Array, int)
}

func ofOne(name string, does func(impl.Array) (impl.Array, int)) made {
	return made{name, func(_ impl.Array, b impl.Array) (impl.Array, int) { return does(b) }}
}

var (
	iotaOf  = ofOne("Iota", impl.Iota)
	shapeOf = ofOne("ShapeOf", impl.ShapeOf)
	ravel   = ofOne("Ravel", impl.Ravel)
	turn    = ofOne("Turn", impl.Turn)
	flip    = ofOne("Flip", impl.Flip)
	reshape = made{"Reshape", impl.Reshape}
	join    = made{"Join", impl.Join}
	rotate  = made{"Rotate", impl.Rotate}
	take    = made{"Take", impl.Take}
	drop    = made{"Drop", impl.Drop}
)

func makersOfOne() []made { return []made{iotaOf, shapeOf, ravel, turn, flip} }

func makersOfTwo() []made { return []made{reshape, join, rotate, take, drop} }

// want is asked of arrays with their room behind them: that no call writes
// into them is looked at each time.
func (m made) want(t *testing.T, a impl.Array, b impl.Array, want impl.Array, code int) {
	t.Helper()
	g, h := guard(a), guard(b)
	if x, how := m.does(g.array, h.array); how != code || !alike(x, want) {
		t.Errorf("%s(%v, %v) = %v, %d; want %v, %d", m.name, a, b, x, how, want, code)
	}
	g.check(t)
	h.check(t)
}

func (m made) wantOne(t *testing.T, b impl.Array, want impl.Array, code int) {
	t.Helper()
	m.want(t, impl.Array{}, b, want, code)
}

func (m made) wantNone(t *testing.T, a impl.Array, b impl.Array, code int) {
	t.Helper()
	m.want(t, a, b, impl.Array{}, code)
}

// of is asked where there is an answer.
func (m made) of(t *testing.T, a impl.Array, b impl.Array) impl.Array {
	t.Helper()
	x, code := m.does(a, b)
	if code != impl.ErNone {
		t.Errorf("%s(%v, %v) has the code %d", m.name, a, b, code)
	}
	return x
}

func inShape(shape []int, data ...int) impl.Array { return impl.Array{Shape: shape, Data: data} }

// singles has the arrays of each rank that have that number alone.
func singles(n int) []impl.Array {
	return []impl.Array{scalar(n), inShape([]int{}, n), vector(n), inShape([]int{1, 1}, n), inShape([]int{1, 1, 1}, n)}
}

// notSingles has arrays of each rank that have not just one number: none,
// two, more, and as many as are right, all of them the same number.
func notSingles(n int) []impl.Array {
	var list []impl.Array
	for _, shape := range append(someShapes(), emptyShapes()...) {
		if wantedSize(shape) != 1 {
			list = append(list, repeated(shape, []int{n}, 0))
		}
	}
	return list
}

// asRows has an array of rank 0 as a vector.
func asRows(a impl.Array) impl.Array {
	if len(a.Shape) == 0 {
		return vector(a.Data...)
	}
	return a
}

// stacked is the array of those rows, each of that shape.
func stacked(shape []int, rows []impl.Array) impl.Array {
	a := impl.Array{Shape: append([]int{len(rows)}, shape...)}
	for _, row := range rows {
		a.Data = append(a.Data, row.Data...)
	}
	return a
}

func everyShape() [][]int { return append(someShapes(), emptyShapes()...) }

func TestIota(t *testing.T) {
	for n := range impl.MaxSize + 1 {
		var list []int
		for i := range n {
			list = append(list, i)
		}
		for _, a := range singles(n) {
			iotaOf.wantOne(t, a, vector(list...), impl.ErNone)
		}
	}
}

func TestIotaOfOthers(t *testing.T) {
	for _, n := range []int{-1, -2, -300, -301, -1 << 32, -top} {
		for _, a := range singles(n) {
			iotaOf.wantOne(t, a, impl.Array{}, impl.ErDomain)
		}
	}
	for _, n := range []int{301, 302, 1 << 32, 1<<32 + 5, top - 1, top} {
		for _, a := range singles(n) {
			iotaOf.wantOne(t, a, impl.Array{}, impl.ErLimit)
		}
	}
}

// How many numbers there are counts ahead of which they are.
func TestIotaOfNotOne(t *testing.T) {
	for _, n := range []int{0, 2, -1, 301, top, -top} {
		for _, a := range notSingles(n) {
			iotaOf.wantOne(t, a, impl.Array{}, impl.ErLength)
		}
	}
}

func TestShapeOf(t *testing.T) {
	shapeOf.wantOne(t, scalar(5), vector(), impl.ErNone)
	shapeOf.wantOne(t, vector(5, 6, 7), vector(3), impl.ErNone)
	shapeOf.wantOne(t, vector(), vector(0), impl.ErNone)
	shapeOf.wantOne(t, inShape([]int{2, 0, 3}), vector(2, 0, 3), impl.ErNone)
	for _, shape := range everyShape() {
		shapeOf.wantOne(t, numberedArray(shape), vector(shape...), impl.ErNone)
	}
}

func TestRavel(t *testing.T) {
	ravel.wantOne(t, scalar(-5), vector(-5), impl.ErNone)
	ravel.wantOne(t, inShape([]int{2, 2}, 1, 2, 3, 4), vector(1, 2, 3, 4), impl.ErNone)
	for _, shape := range everyShape() {
		a := numberedArray(shape)
		ravel.wantOne(t, a, vector(a.Data...), impl.ErNone)
	}
}

func TestReshapeOrdinary(t *testing.T) {
	reshape.want(t, vector(2, 2), vector(1, 2, 3), inShape([]int{2, 2}, 1, 2, 3, 1), impl.ErNone)
	reshape.want(t, scalar(5), vector(1, 2), vector(1, 2, 1, 2, 1), impl.ErNone)
	reshape.want(t, vector(3), scalar(9), vector(9, 9, 9), impl.ErNone)
	reshape.want(t, vector(2), inShape([]int{2, 2}, 1, 2, 3, 4), vector(1, 2), impl.ErNone)
	reshape.want(t, vector(), vector(7, 8), scalar(7), impl.ErNone)
	reshape.want(t, vector(), vector(), scalar(0), impl.ErNone)
	reshape.want(t, vector(2, 2), vector(), inShape([]int{2, 2}, 0, 0, 0, 0), impl.ErNone)
	reshape.want(t, scalar(0), vector(1, 2), vector(), impl.ErNone)
	reshape.want(t, vector(3, 0), vector(1, 2), inShape([]int{3, 0}), impl.ErNone)
}

// Each shape is asked for with the numbers of arrays of each rank: fewer than
// it needs, just as many, more, one, and none.
func TestReshapeToEveryShape(t *testing.T) {
	for _, from := range append(smallShapes(), []int{299}, []int{300}, []int{3, 10, 10}, []int{300, 300, 0}, []int{0, 300, 300}) {
		b := numberedArray(from)
		list := b.Data
		if len(list) == 0 {
			list = []int{0}
		}
		for _, shape := range everyShape() {
			reshape.want(t, vector(shape...), b, repeated(shape, list, 0), impl.ErNone)
			if len(shape) == 1 {
				reshape.want(t, scalar(shape[0]), b, repeated(shape, list, 0), impl.ErNone)
			}
		}
	}
}

func TestReshapeByItsOwnShape(t *testing.T) {
	for _, shape := range everyShape() {
		a := numberedArray(shape)
		reshape.want(t, shapeOf.of(t, a, a), a, a, impl.ErNone)
		reshape.want(t, shapeOf.of(t, a, a), ravel.of(t, a, a), a, impl.ErNone)
	}
}

// wantedReshape is the code of reshaping by these numbers: one below nought,
// wherever it stands, counts ahead of all that is too great or too many.
func wantedReshape(list []int) int {
	for _, n := range list {
		if n < 0 {
			return impl.ErDomain
		}
	}
	if wantedSize(list) < 0 {
		return impl.ErLimit
	}
	return impl.ErNone
}

func TestReshapeByAnyNumbers(t *testing.T) {
	choice := []int{0, 1, 2, 17, 18, 150, 300, 301, -1, top, -top, 1 << 32}
	for long := range 6 {
		if long == 5 {
			choice = []int{0, 1, 301, -1}
		}
		everyList(choice, long, func(list []int) {
			code := wantedReshape(list)
			want := impl.Array{}
			if code == impl.ErNone {
				want = repeated(list, []int{5, 6}, 0)
			}
			reshape.want(t, vector(list...), vector(5, 6), want, code)
		})
	}
	for _, n := range choice {
		code := wantedReshape([]int{n})
		if code != impl.ErNone {
			reshape.wantNone(t, scalar(n), vector(), code)
		}
	}
}

func TestReshapeByTooManyNumbers(t *testing.T) {
	for _, long := range []int{4, 5, 30, 300} {
		for _, n := range []int{0, 1} {
			reshape.wantNone(t, repeated([]int{long}, []int{n}, 0), vector(5), impl.ErLimit)
			list := repeated([]int{long}, []int{n}, 0)
			list.Data[long-1] = -1
			reshape.wantNone(t, list, vector(5), impl.ErDomain)
		}
	}
}

// The rank of a counts ahead of its numbers, and of how many there are.
func TestReshapeByHigherRanks(t *testing.T) {
	for _, shape := range everyShape() {
		for _, n := range []int{0, 1, -1, 301, top} {
			if len(shape) > 1 {
				reshape.wantNone(t, repeated(shape, []int{n}, 0), vector(1, 2), impl.ErRank)
				reshape.wantNone(t, repeated(shape, []int{n}, 0), vector(), impl.ErRank)
			}
		}
	}
}

func TestJoinOrdinary(t *testing.T) {
	join.want(t, vector(1, 2), vector(3), vector(1, 2, 3), impl.ErNone)
	join.want(t, scalar(9), vector(1, 2), vector(9, 1, 2), impl.ErNone)
	join.want(t, vector(1, 2), scalar(9), vector(1, 2, 9), impl.ErNone)
	join.want(t, scalar(8), scalar(9), vector(8, 9), impl.ErNone)
	join.want(t, vector(), scalar(9), vector(9), impl.ErNone)
	join.want(t, vector(), vector(), vector(), impl.ErNone)
	join.want(t, inShape([]int{1, 2}, 1, 2), inShape([]int{2, 2}, 3, 4, 5, 6), inShape([]int{3, 2}, 1, 2, 3, 4, 5, 6), impl.ErNone)
	join.wantNone(t, inShape([]int{2, 2}, 1, 2, 3, 4), vector(1, 2), impl.ErRank)
	join.wantNone(t, inShape([]int{2, 2}, 1, 2, 3, 4), scalar(1), impl.ErRank)
	join.wantNone(t, inShape([]int{2, 2}, 1, 2, 3, 4), inShape([]int{2, 1}, 1, 2), impl.ErLength)
}

func wantedJoin(a impl.Array, b impl.Array) (impl.Array, int) {
	a, b = asRows(a), asRows(b)
	if len(a.Shape) != len(b.Shape) {
		return impl.Array{}, impl.ErRank
	}
	if !slices.Equal(a.Shape[1:], b.Shape[1:]) {
		return impl.Array{}, impl.ErLength
	}
	x := stacked(a.Shape[1:], append(wantedRows(a), wantedRows(b)...))
	if wantedSize(x.Shape) < 0 {
		return impl.Array{}, impl.ErLimit
	}
	return x, impl.ErNone
}

func TestJoinOfEveryTwoShapes(t *testing.T) {
	for _, one := range everyShape() {
		for _, other := range everyShape() {
			a, b := numberedArray(one), repeated(other, []int{1, 2, 3, 4, 5}, 0)
			want, code := wantedJoin(a, b)
			join.want(t, a, b, want, code)
		}
	}
}

func TestJoinAtTheLimit(t *testing.T) {
	for _, c := range []struct {
		a, b []int
		code int
	}{
		{[]int{299}, []int{}, impl.ErNone}, {[]int{}, []int{299}, impl.ErNone}, {[]int{150}, []int{150}, impl.ErNone},
		{[]int{300}, []int{}, impl.ErLimit}, {[]int{}, []int{300}, impl.ErLimit}, {[]int{150}, []int{151}, impl.ErLimit},
		{[]int{300}, []int{0}, impl.ErNone}, {[]int{300}, []int{300}, impl.ErLimit},
		{[]int{1, 150}, []int{1, 150}, impl.ErNone}, {[]int{2, 150}, []int{1, 150}, impl.ErLimit},
		{[]int{16, 17}, []int{1, 17}, impl.ErNone}, {[]int{16, 17}, []int{2, 17}, impl.ErLimit},
		{[]int{150, 0}, []int{150, 0}, impl.ErNone}, {[]int{150, 0}, []int{151, 0}, impl.ErLimit},
		{[]int{2, 10, 10}, []int{1, 10, 10}, impl.ErNone}, {[]int{2, 10, 10}, []int{2, 10, 10}, impl.ErLimit},
		{[]int{299, 0, 300}, []int{1, 0, 300}, impl.ErNone}, {[]int{300, 0, 300}, []int{1, 0, 300}, impl.ErLimit},
		{[]int{0, 300, 300}, []int{0, 300, 300}, impl.ErNone}, {[]int{0, 300, 300}, []int{0, 300, 299}, impl.ErLength},
		{[]int{0, 20, 20}, []int{1, 20, 0}, impl.ErLength}, {[]int{0, 150}, []int{2, 150}, impl.ErNone},
		{[]int{300, 1}, []int{1, 2}, impl.ErLength}, {[]int{300, 1, 1}, []int{300}, impl.ErRank},
		{[]int{300, 0}, []int{300, 1}, impl.ErLength}, {[]int{}, []int{300, 1}, impl.ErRank},
	} {
		a, b := numberedArray(c.a), numberedArray(c.b)
		want, code := wantedJoin(a, b)
		if code != c.code {
			t.Fatal("the test itself reckons wrongly:", c, code)
		}
		join.want(t, a, b, want, code)
	}
}

func TestTurn(t *testing.T) {
	turn.wantOne(t, vector(1, 2, 3), vector(3, 2, 1), impl.ErNone)
	turn.wantOne(t, inShape([]int{2, 3}, 1, 2, 3, 4, 5, 6), inShape([]int{2, 3}, 4, 5, 6, 1, 2, 3), impl.ErNone)
	for _, shape := range everyShape() {
		a := numberedArray(shape)
		want := a
		if len(shape) > 0 {
			rows := wantedRows(a)
			slices.Reverse(rows)
			want = stacked(shape[1:], rows)
		}
		turn.wantOne(t, a, want, impl.ErNone)
		turn.wantOne(t, turn.of(t, a, a), a, impl.ErNone)
	}
}

func TestFlip(t *testing.T) {
	flip.wantOne(t, vector(1, 2, 3), vector(1, 2, 3), impl.ErNone)
	flip.wantOne(t, inShape([]int{2, 3}, 1, 2, 3, 4, 5, 6), inShape([]int{3, 2}, 1, 4, 2, 5, 3, 6), impl.ErNone)
	flip.wantOne(t, inShape([]int{2, 1, 3}, 1, 2, 3, 4, 5, 6), inShape([]int{3, 1, 2}, 1, 4, 2, 5, 3, 6), impl.ErNone)
	for _, shape := range everyShape() {
		a := numberedArray(shape)
		b := flip.of(t, a, a)
		flip.wantOne(t, b, a, impl.ErNone)
		back := slices.Clone(shape)
		slices.Reverse(back)
		if !slices.Equal(b.Shape, back) || len(b.Data) != len(a.Data) {
			t.Errorf("Flip of the shape %v has %v, with %d numbers", shape, b.Shape, len(b.Data))
		}
		for place, index := range listedIndexes(shape) {
			slices.Reverse(index)
			wantNum(t, b, index, a.Data[place], true)
		}
	}
}

// someTurns has numbers around that of the rows, and at the limit.
func someTurns(count int) []int {
	list := []int{301, -301, 12345, -12345, 1<<32 + 1, -1<<32 - 1, top - 1, top, 1 - top, -top}
	for n := range 4 {
		list = append(list, n, -n, count-n, n-count, count+n, -count-n, 2*count+n, -2*count-n)
	}
	return list
}

// wantedRotate is told the rows of b, which it would else find for each n anew.
func wantedRotate(n int, b impl.Array, rows []impl.Array) impl.Array {
	if len(b.Shape) == 0 || len(rows) == 0 {
		return b
	}
	from := (n%len(rows) + len(rows)) % len(rows)
	return stacked(b.Shape[1:], slices.Concat(rows[from:], rows[:from]))
}

func TestRotate(t *testing.T) {
	rotate.want(t, scalar(1), vector(1, 2, 3), vector(2, 3, 1), impl.ErNone)
	rotate.want(t, scalar(-1), vector(1, 2, 3), vector(3, 1, 2), impl.ErNone)
	rotate.want(t, scalar(1), inShape([]int{2, 2}, 1, 2, 3, 4), inShape([]int{2, 2}, 3, 4, 1, 2), impl.ErNone)
	rotate.want(t, scalar(7), scalar(5), scalar(5), impl.ErNone)
	rotate.want(t, scalar(7), vector(), vector(), impl.ErNone)
	for _, shape := range everyShape() {
		b := numberedArray(shape)
		rows := wantedRows(asRows(b))
		for _, n := range someTurns(len(rows)) {
			rotate.want(t, scalar(n), b, wantedRotate(n, b, rows), impl.ErNone)
		}
	}
}

func TestRotateBack(t *testing.T) {
	for _, shape := range everyShape() {
		b := numberedArray(shape)
		count := asRows(b).Shape[0]
		for _, n := range someTurns(count) {
			there := rotate.of(t, scalar(n), b)
			rotate.want(t, scalar(-n), there, b, impl.ErNone)
			if impl.NumOk(count - n) {
				rotate.want(t, scalar(count-n), there, b, impl.ErNone)
			}
			rotate.want(t, scalar(1), rotate.of(t, scalar(-1), there), there, impl.ErNone)
		}
	}
}

// someCounts has each number of rows that a small array has and lacks, on
// both sides of nought, and those at the limits.
func someCounts(count int) []int {
	list := []int{150, 151, 299, 300, 301, 1 << 32, 1<<32 + 1, top - 1, top}
	for n := range 7 {
		list = append(list, n, count+n-3)
	}
	for _, n := range slices.Clone(list) {
		list = append(list, -n)
	}
	return list
}

// wantedTake lays the rows on one pile with rows of nought on both sides of
// it, and cuts as many as are wanted out of that.
func wantedTake(n int, b impl.Array, rows []impl.Array) (impl.Array, int) {
	count := max(n, -n)
	shape := append([]int{count}, b.Shape[1:]...)
	if wantedSize(shape) < 0 {
		return impl.Array{}, impl.ErLimit
	}
	nought := impl.Array{}
	if count > 0 {
		nought.Data = make([]int, wantedSize(shape)/count)
	}
	side := slices.Repeat([]impl.Array{nought}, count)
	pile := slices.Concat(side, rows, side)
	from := count
	if n < 0 {
		from = len(rows)
	}
	return stacked(b.Shape[1:], pile[from:from+count]), impl.ErNone
}

func wantedDrop(n int, b impl.Array, rows []impl.Array) impl.Array {
	for ; n > 0 && len(rows) > 0; n-- {
		rows = rows[1:]
	}
	for ; n < 0 && len(rows) > 0; n++ {
		rows = rows[:len(rows)-1]
	}
	return stacked(b.Shape[1:], rows)
}

func TestTakeOrdinary(t *testing.T) {
	m := inShape([]int{2, 2}, 1, 2, 3, 4)
	take.want(t, scalar(2), vector(1, 2, 3), vector(1, 2), impl.ErNone)
	take.want(t, scalar(-2), vector(1, 2, 3), vector(2, 3), impl.ErNone)
	take.want(t, scalar(0), vector(1, 2, 3), vector(), impl.ErNone)
	take.want(t, scalar(5), vector(1, 2, 3), vector(1, 2, 3, 0, 0), impl.ErNone)
	take.want(t, scalar(-5), vector(1, 2, 3), vector(0, 0, 1, 2, 3), impl.ErNone)
	take.want(t, scalar(1), m, inShape([]int{1, 2}, 1, 2), impl.ErNone)
	take.want(t, scalar(-1), m, inShape([]int{1, 2}, 3, 4), impl.ErNone)
	take.want(t, scalar(0), m, inShape([]int{0, 2}), impl.ErNone)
	take.want(t, scalar(3), m, inShape([]int{3, 2}, 1, 2, 3, 4, 0, 0), impl.ErNone)
	take.want(t, scalar(-3), m, inShape([]int{3, 2}, 0, 0, 1, 2, 3, 4), impl.ErNone)
	take.want(t, scalar(2), vector(), vector(0, 0), impl.ErNone)
	take.want(t, scalar(1), scalar(9), vector(9), impl.ErNone)
	take.want(t, scalar(-3), scalar(9), vector(0, 0, 9), impl.ErNone)
	take.want(t, scalar(0), scalar(9), vector(), impl.ErNone)
}

func TestTakeOfEveryShape(t *testing.T) {
	for _, shape := range everyShape() {
		b := numberedArray(shape)
		rows := wantedRows(asRows(b))
		for _, n := range someCounts(len(rows)) {
			want, code := wantedTake(n, asRows(b), rows)
			take.want(t, scalar(n), b, want, code)
		}
	}
}

func TestTakeAtTheLimit(t *testing.T) {
	for _, c := range []struct {
		shape []int
		most  int
	}{
		{[]int{}, 300}, {[]int{0}, 300}, {[]int{7}, 300}, {[]int{300}, 300}, {[]int{2, 150}, 2}, {[]int{1, 17}, 17},
		{[]int{0, 17}, 17}, {[]int{2, 0}, 300}, {[]int{0, 300, 300}, 0}, {[]int{0, 300, 0}, 300}, {[]int{3, 10, 10}, 3},
		{[]int{1, 300}, 1}, {[]int{0, 17, 18}, 0}, {[]int{0, 17, 17}, 1},
	} {
		b := numberedArray(c.shape)
		for _, n := range []int{c.most, -c.most} {
			if x := take.of(t, scalar(n), b); x.Shape[0] != c.most || !impl.ArrayOk(x) {
				t.Errorf("Take(%d) of the shape %v has %v", n, c.shape, x.Shape)
			}
		}
		for _, n := range []int{c.most + 1, -c.most - 1, 301, -301, 1 << 32, -1 << 32, top, -top} {
			take.wantNone(t, scalar(n), b, impl.ErLimit)
		}
	}
}

func TestDropOrdinary(t *testing.T) {
	m := inShape([]int{2, 2}, 1, 2, 3, 4)
	drop.want(t, scalar(2), vector(1, 2, 3), vector(3), impl.ErNone)
	drop.want(t, scalar(-2), vector(1, 2, 3), vector(1), impl.ErNone)
	drop.want(t, scalar(0), vector(1, 2, 3), vector(1, 2, 3), impl.ErNone)
	drop.want(t, scalar(3), vector(1, 2, 3), vector(), impl.ErNone)
	drop.want(t, scalar(-4), vector(1, 2, 3), vector(), impl.ErNone)
	drop.want(t, scalar(1), m, inShape([]int{1, 2}, 3, 4), impl.ErNone)
	drop.want(t, scalar(-1), m, inShape([]int{1, 2}, 1, 2), impl.ErNone)
	drop.want(t, scalar(2), m, inShape([]int{0, 2}), impl.ErNone)
	drop.want(t, scalar(0), scalar(9), vector(9), impl.ErNone)
	drop.want(t, scalar(1), scalar(9), vector(), impl.ErNone)
	drop.want(t, scalar(-1), scalar(9), vector(), impl.ErNone)
	drop.want(t, scalar(top), m, inShape([]int{0, 2}), impl.ErNone)
	drop.want(t, scalar(-top), m, inShape([]int{0, 2}), impl.ErNone)
}

func TestDropOfEveryShape(t *testing.T) {
	for _, shape := range everyShape() {
		b := numberedArray(shape)
		rows := wantedRows(asRows(b))
		for _, n := range someCounts(len(rows)) {
			drop.want(t, scalar(n), b, wantedDrop(n, asRows(b), rows), impl.ErNone)
		}
	}
}

// What is taken and what is dropped of one number, joined, is all.
func TestTakenAndDroppedJoined(t *testing.T) {
	for _, shape := range everyShape() {
		if len(shape) == 0 {
			continue
		}
		b := numberedArray(shape)
		for n := range shape[0] + 1 {
			join.want(t, take.of(t, scalar(n), b), drop.of(t, scalar(n), b), b, impl.ErNone)
			join.want(t, drop.of(t, scalar(-n), b), take.of(t, scalar(-n), b), b, impl.ErNone)
		}
	}
}

// What is joined is taken and dropped again, from either end.
func TestJoinedTakenAndDropped(t *testing.T) {
	for _, one := range everyShape() {
		for _, other := range everyShape() {
			a, b := numberedArray(one), repeated(other, []int{1, 2, 3, 4, 5}, 0)
			all, code := impl.Join(a, b)
			if code != impl.ErNone {
				continue
			}
			a, b = asRows(a), asRows(b)
			take.want(t, scalar(a.Shape[0]), all, a, impl.ErNone)
			drop.want(t, scalar(a.Shape[0]), all, b, impl.ErNone)
			take.want(t, scalar(-b.Shape[0]), all, b, impl.ErNone)
			drop.want(t, scalar(-b.Shape[0]), all, a, impl.ErNone)
		}
	}
}

// One number may come in an array of any rank.
func TestOneNumberOfAnyRank(t *testing.T) {
	for _, shape := range smallShapes() {
		b := numberedArray(shape)
		for _, n := range []int{0, 1, 2, 3, 7, -1, -2, -7, 301, top, -top} {
			for _, m := range []made{rotate, take, drop} {
				want, code := m.does(scalar(n), b)
				for _, a := range singles(n) {
					m.want(t, a, b, want, code)
				}
			}
		}
	}
}

// How many numbers a has counts ahead of what they would take, and of whether
// b has rows at all.
func TestNotOneNumber(t *testing.T) {
	for _, n := range []int{0, 1, -1, 301, top, -top} {
		for _, a := range notSingles(n) {
			for _, b := range []impl.Array{scalar(3), vector(), vector(1, 2), inShape([]int{2, 0}), inShape([]int{0, 300, 300}), numberedArray([]int{2, 3, 4})} {
				for _, m := range []made{rotate, take, drop} {
					m.wantNone(t, a, b, impl.ErLength)
				}
			}
		}
	}
}

// refuseWrongOnes is asked of functions of one array and of ones of two: an
// array that is not right, on either side, counts ahead of all else amiss.
func refuseWrongOnes(t *testing.T, one []made, two []made) {
	t.Helper()
	amiss := []impl.Array{scalar(-1), scalar(top), vector(-1, -2), vector(1, 1, 1, 1), inShape([]int{2, 2}, -1, 2, 3, 301), numberedArray([]int{300})}
	for _, a := range append(everyWrongArray(), impl.Array{}) {
		for _, m := range one {
			m.wantOne(t, a, impl.Array{}, impl.ErBad)
		}
		for _, m := range two {
			for _, b := range slices.Concat(partners(), amiss, []impl.Array{a}) {
				m.wantNone(t, a, b, impl.ErBad)
				m.wantNone(t, b, a, impl.ErBad)
			}
		}
	}
}

func TestMakingOfWrongOnes(t *testing.T) {
	refuseWrongOnes(t, makersOfOne(), makersOfTwo())
}

// pairsToMake has an array of each shape beside ones with which there is an
// answer, and ones with which there is none.
func pairsToMake() [][2]impl.Array {
	var list [][2]impl.Array
	for _, shape := range everyShape() {
		b := numberedArray(shape)
		for _, a := range []impl.Array{scalar(1), vector(-2), vector(0), vector(2, 3), vector(), b, vector(shape...),
			scalar(-1), vector(top), vector(1, 2, 3, 4), inShape([]int{2}, top+1, 0)} {
			list = append(list, [2]impl.Array{a, b}, [2]impl.Array{b, a})
		}
	}
	return list
}

// wantNewMemory is asked of each function with each pair, and with the first
// of the pair on both sides.
func wantNewMemory(t *testing.T, makers []made, pairs [][2]impl.Array) {
	t.Helper()
	for _, p := range pairs {
		for _, m := range makers {
			g, h := guard(p[0]), guard(p[1])
			wantOwnMemory(t, func() impl.Array { x, _ := m.does(g.array, h.array); return x }, g, h)
			g = guard(p[0])
			wantOwnMemory(t, func() impl.Array { x, _ := m.does(g.array, g.array); return x }, g)
		}
	}
}

func TestMakingIsNewMemory(t *testing.T) {
	wantNewMemory(t, append(makersOfOne(), makersOfTwo()...), pairsToMake())
}

// wantRightOrNothing: whatever has an answer has a right array, and nothing
// else has anything.
func wantRightOrNothing(t *testing.T, makers []made, pairs [][2]impl.Array) {
	t.Helper()
	for _, p := range pairs {
		for _, m := range makers {
			x, code := m.does(p[0], p[1])
			if code == impl.ErNone && !impl.ArrayOk(x) || code != impl.ErNone && !alike(x, impl.Array{}) {
				t.Errorf("%s(%v, %v) = %v, %d", m.name, p[0], p[1], x, code)
			}
		}
	}
}

func TestMadeOnesAreRight(t *testing.T) {
	wantRightOrNothing(t, append(makersOfOne(), makersOfTwo()...), pairsToMake())
}

// One list may be the Shape and the Data of an argument, and of both.
func TestMakingOfOneList(t *testing.T) {
	list := []int{2, 5}
	a := impl.Array{Shape: list[:1], Data: list}
	one := []int{1}
	n := impl.Array{Shape: one, Data: one}
	for _, c := range []struct {
		m    made
		a, b impl.Array
		want impl.Array
	}{
		{reshape, a, a, inShape([]int{2, 5}, 2, 5, 2, 5, 2, 5, 2, 5, 2, 5)}, {join, a, a, vector(2, 5, 2, 5)},
		{ravel, a, a, vector(2, 5)}, {turn, a, a, vector(5, 2)}, {flip, a, a, vector(2, 5)}, {shapeOf, a, a, vector(2)},
		{rotate, n, a, vector(5, 2)}, {take, n, a, vector(2)}, {drop, n, a, vector(5)}, {iotaOf, n, n, vector(0)},
		{take, n, n, vector(1)}, {drop, n, n, vector()}, {rotate, n, n, vector(1)}, {reshape, n, n, vector(1)},
	} {
		if x, code := c.m.does(c.a, c.b); code != impl.ErNone || !alike(x, c.want) {
			t.Errorf("%s(%v, %v) = %v, %d; want %v", c.m.name, c.a, c.b, x, code, c.want)
		}
	}
	if !slices.Equal(list, []int{2, 5}) || one[0] != 1 {
		t.Error("written into:", list, one)
	}
}
