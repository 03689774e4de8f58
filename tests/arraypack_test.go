package tests

import (
	"bytes"
	"encoding/binary"
	"math"
	"slices"
	"testing"

	"loop.example/g00182/impl"
)

// arrayBytes writes an array as ArrayPack has it, right or not; rank is the
// first byte.
func arrayBytes(rank int, a impl.Array) []byte {
	b := []byte{byte(rank)}
	for _, n := range a.Shape {
		b = binary.LittleEndian.AppendUint16(b, uint16(n))
	}
	for _, x := range a.Data {
		b = binary.LittleEndian.AppendUint64(b, uint64(x+top))
	}
	return b
}

func bytesOfArray(a impl.Array) []byte { return arrayBytes(len(a.Shape), a) }

// wantedArray reads one piece behind the other, and asks at each whether it is
// there.
func wantedArray(b []byte) (impl.Array, bool) {
	r := bytes.NewReader(b)
	rank, err := r.ReadByte()
	if err != nil || rank > 3 {
		return impl.Array{}, false
	}
	var a impl.Array
	for range rank {
		var n uint16
		if binary.Read(r, binary.LittleEndian, &n) != nil {
			return impl.Array{}, false
		}
		a.Shape = append(a.Shape, int(n))
	}
	for r.Len() > 0 {
		var x uint64
		if binary.Read(r, binary.LittleEndian, &x) != nil || x > 2*top {
			return impl.Array{}, false
		}
		a.Data = append(a.Data, int(x)-top)
	}
	if !wantedArrayOk(a) {
		return impl.Array{}, false
	}
	return a, true
}

// wantArrayAsModel sees that what is read is packed as the same bytes again.
func wantArrayAsModel(t *testing.T, b []byte) bool {
	t.Helper()
	want, is := wantedArray(b)
	a, ok := impl.ArrayRead(b)
	if ok != is || !alike(a, want) {
		t.Errorf("ArrayRead(%v) = %v, %t; want %v, %t", b, a, ok, want, is)
	}
	if again, packed := impl.ArrayPack(a); packed != ok || ok && !bytes.Equal(again, b) {
		t.Errorf("%v is read as %v, which is packed as %v", b, a, again)
	}
	return is
}

func wantArrayRead(t *testing.T, b []byte, want impl.Array) {
	t.Helper()
	if a, ok := impl.ArrayRead(b); !ok || !alike(a, want) {
		t.Errorf("ArrayRead(%v) = %v, %t; want %v", b, a, ok, want)
	}
	wantArrayAsModel(t, b)
}

func wantNoArray(t *testing.T, b []byte) {
	t.Helper()
	if a, ok := impl.ArrayRead(b); ok || !alike(a, impl.Array{}) {
		t.Errorf("ArrayRead(%v) = %v, %t", b, a, ok)
	}
	wantArrayAsModel(t, b)
}

func wantArrayPacked(t *testing.T, want []byte, a impl.Array) {
	t.Helper()
	if b, ok := impl.ArrayPack(a); !ok || !bytes.Equal(b, want) {
		t.Errorf("ArrayPack(%v) = %v, %t; want %v", a, b, ok, want)
	}
	wantArrayRead(t, want, a)
}

func wantNotPacked(t *testing.T, a impl.Array) {
	t.Helper()
	if b, ok := impl.ArrayPack(a); ok || len(b) > 0 {
		t.Errorf("ArrayPack(%v) = %v, %t", a, b, ok)
	}
}

// MaxNum is 232 * 2^32 + 212 * 2^24 + 165 * 2^16 + 16 * 2^8, and twice that is
// what the greatest number is written as.
func TestArrayPackOrdinary(t *testing.T) {
	zero := []byte{0, 16, 165, 212, 232, 0, 0, 0}
	one := []byte{1, 16, 165, 212, 232, 0, 0, 0}
	below := []byte{255, 15, 165, 212, 232, 0, 0, 0}
	least := []byte{0, 0, 0, 0, 0, 0, 0, 0}
	most := []byte{0, 32, 74, 169, 209, 1, 0, 0}
	wantArrayPacked(t, slices.Concat([]byte{0}, zero), scalar(0))
	wantArrayPacked(t, slices.Concat([]byte{0}, one), scalar(1))
	wantArrayPacked(t, slices.Concat([]byte{0}, below), scalar(-1))
	wantArrayPacked(t, slices.Concat([]byte{0}, least), scalar(-top))
	wantArrayPacked(t, slices.Concat([]byte{0}, most), scalar(top))
	wantArrayPacked(t, slices.Concat([]byte{1, 1, 0}, one), vector(1))
	wantArrayPacked(t, slices.Concat([]byte{1, 3, 0}, most, least, zero), vector(top, -top, 0))
	wantArrayPacked(t, slices.Concat([]byte{2, 2, 0, 1, 0}, one, below), inShape([]int{2, 1}, 1, -1))
	wantArrayPacked(t, slices.Concat([]byte{2, 1, 0, 2, 0}, one, below), inShape([]int{1, 2}, 1, -1))
	wantArrayPacked(t, slices.Concat([]byte{3, 1, 0, 2, 0, 1, 0}, below, most), inShape([]int{1, 2, 1}, -1, top))
	wantArrayPacked(t, []byte{1, 1, 0, 2, 1, 0, 0, 0, 0, 0, 0}, vector(-top+258))
}

func TestArrayPackWithoutNumbers(t *testing.T) {
	wantArrayPacked(t, []byte{1, 0, 0}, vector())
	wantArrayPacked(t, []byte{2, 0, 0, 0, 0}, inShape([]int{0, 0}))
	wantArrayPacked(t, []byte{2, 0, 0, 44, 1}, inShape([]int{0, 300}))
	wantArrayPacked(t, []byte{2, 3, 0, 0, 0}, inShape([]int{3, 0}))
	wantArrayPacked(t, []byte{3, 44, 1, 44, 1, 0, 0}, inShape([]int{300, 300, 0}))
	wantArrayPacked(t, []byte{3, 44, 1, 0, 0, 44, 1}, inShape([]int{300, 0, 300}))
	wantArrayPacked(t, []byte{3, 0, 0, 255, 0, 0, 1}, inShape([]int{0, 255, 256}))
}

// A number of Shape has a low byte and a high one, at each place.
func TestArrayPackCounts(t *testing.T) {
	for _, c := range []struct{ long, low, high int }{{1, 1, 0}, {2, 2, 0}, {254, 254, 0}, {255, 255, 0}, {256, 0, 1}, {257, 1, 1}, {299, 43, 1}, {300, 44, 1}} {
		for _, shape := range [][]int{{c.long}, {c.long, 1}, {1, c.long}, {c.long, 1, 1}, {1, c.long, 1}, {1, 1, c.long}, {0, c.long}, {c.long, 0}, {0, c.long, c.long}, {c.long, 0, c.long}, {c.long, c.long, 0}} {
			a := numberedArray(shape)
			b, ok := impl.ArrayPack(a)
			if !ok || len(b) != 1+2*len(shape)+8*len(a.Data) {
				t.Fatalf("ArrayPack of %v has %d bytes, %t", shape, len(b), ok)
			}
			for i, n := range shape {
				low, high := int(b[1+2*i]), int(b[2+2*i])
				if n == c.long && (low != c.low || high != c.high) || n != c.long && (low != n || high != 0) {
					t.Errorf("%d of %v is written as %d, %d", n, shape, low, high)
				}
			}
			wantArrayPacked(t, bytesOfArray(a), a)
		}
	}
}

func TestArrayPackNumbers(t *testing.T) {
	for _, x := range append(numbersToPack(), numbersOfEachWidth()...) {
		b, ok := impl.ArrayPack(scalar(x))
		if !ok || len(b) != 9 || int(binary.LittleEndian.Uint64(b[1:])) != x+top {
			t.Error("ArrayPack of", x, "=", b, ok)
		}
		for _, a := range []impl.Array{scalar(x), vector(7, x, -7), inShape([]int{2, 2}, x, 0, 1, x)} {
			wantArrayPacked(t, bytesOfArray(a), a)
		}
	}
}

// Promise 16: arrays are read from their bytes as they were.
func TestArrayReadOfWhatIsPacked(t *testing.T) {
	arrays := arraysToShow()
	for _, shape := range [][]int{{300}, {1, 300}, {15, 20}, {10, 10, 3}} {
		arrays = append(arrays, repeated(shape, []int{top}, 0), repeated(shape, []int{-top}, 0), repeated(shape, []int{top, -top, 0}, 0))
	}
	for _, a := range arrays {
		b, ok := impl.ArrayPack(a)
		again, read := impl.ArrayRead(b)
		if !ok || !read || !impl.ArraySame(a, again) || !bytes.Equal(b, bytesOfArray(a)) {
			t.Errorf("%v is packed as %v, %t, and read as %v, %t", a, b, ok, again, read)
		}
	}
}

// What is not right has no bytes, and those that it would have are no array's.
func TestArrayPackOfWrongOnes(t *testing.T) {
	for _, a := range append(everyWrongArray(), impl.Array{}, inShape([]int{2, 0}, 1), inShape([]int{256 * 256}), inShape([]int{0, 256*256 + 1}), inShape([]int{-256}), inShape([]int{0, -256 * 256})) {
		wantNotPacked(t, a)
	}
	for _, a := range everyWrongArray() {
		small := !slices.ContainsFunc(a.Shape, func(n int) bool { return n < 0 || n > math.MaxUint16 })
		// The bytes of a number that has left 64 bits with MaxNum, or is less than
		// -MaxNum, tell a number that is not right either.
		if small {
			wantNoArray(t, bytesOfArray(a))
		}
	}
}

// arraysToSpoil have each rank, and few bytes.
func arraysToSpoil() []impl.Array {
	return []impl.Array{scalar(0), scalar(top), scalar(-top), vector(), vector(5), vector(top, -top, 7), inShape([]int{0, 2}), inShape([]int{2, 0}), inShape([]int{1, 1}, 3), inShape([]int{2, 2}, 1, -2, 3, -4),
		inShape([]int{0, 300}), inShape([]int{300, 0}), inShape([]int{0, 0, 0}), inShape([]int{2, 0, 3}), inShape([]int{1, 1, 1}, -9), inShape([]int{1, 2, 1}, top, 0), inShape([]int{2, 1, 2}, 1, 2, 3, 4)}
}

func TestArrayReadCutShortAndLong(t *testing.T) {
	wantNoArray(t, nil)
	wantNoArray(t, []byte{})
	for _, a := range append(arraysToSpoil(), numberedArray([]int{256}), numberedArray([]int{300}), numberedArray([]int{15, 20}), numberedArray([]int{10, 10, 3})) {
		b := bytesOfArray(a)
		wantArrayRead(t, b, a)
		for long := range b {
			wantNoArray(t, b[:long:long])
			// Whatever is in the spare room behind it is not read.
			wantNoArray(t, b[:long])
		}
		for more := 1; more <= 17; more++ {
			wantNoArray(t, append(slices.Clone(b), make([]byte, more)...))
			wantNoArray(t, append(slices.Clone(b), slices.Repeat([]byte{1}, more)...))
		}
		wantNoArray(t, slices.Concat(b, b))
		wantNoArray(t, slices.Concat(b, bytesOfArray(scalar(5))[1:]))
	}
}

// Each byte is in turn each other one: nearly always there is no array then,
// and where there is it is that of the changed bytes.
func TestArrayReadEachByteChanged(t *testing.T) {
	var c readCount
	for _, a := range arraysToSpoil() {
		c.eachByteChanged(bytesOfArray(a), func(b []byte) bool { return wantArrayAsModel(t, b) })
	}
	c.want(t, 1000)
}

// A rank that is too great is refused with the bytes that it asks for, with
// fewer and with more.
func TestArrayReadRanks(t *testing.T) {
	for rank := range 256 {
		ones, noughts := impl.Array{Shape: slices.Repeat([]int{1}, rank), Data: []int{5}}, impl.Array{Shape: make([]int, rank)}
		if rank <= 3 {
			wantArrayRead(t, bytesOfArray(ones), ones)
		} else {
			wantNoArray(t, bytesOfArray(ones))
			wantNoArray(t, bytesOfArray(noughts))
		}
		for _, a := range arraysToSpoil() {
			if rank != len(a.Shape) {
				wantArrayAsModel(t, arrayBytes(rank, a))
			}
			if rank > 3 {
				wantNoArray(t, arrayBytes(rank, a))
			}
		}
	}
	// A rank and that many more of 256 look alike as a byte.
	long := impl.Array{Shape: slices.Repeat([]int{1}, 257), Data: []int{5}}
	wantNoArray(t, bytesOfArray(long))
	wantNotPacked(t, long)
}

// A Shape that is none is refused with as many numbers as it might be taken to
// want, and where a nought beside it leaves none.
func TestArrayReadShapes(t *testing.T) {
	for _, shape := range [][]int{{301}, {302}, {512}, {556}, {600}, {65535}, {300, 2}, {7, 43}, {17, 18}, {2, 151}, {150, 3}, {7, 7, 7}, {10, 10, 4}, {300, 300}, {300, 300, 300}, {65535, 65535}, {65535, 65535, 65535}, {256, 256, 1}, {32768, 2}, {16384, 4, 1}} {
		product := 1
		for _, n := range shape {
			product *= n
		}
		for _, long := range []int{0, 1, 2, 4, 44, 299, 300, 301, 302, 306, 343, 400, 600, product % 256, product % 65536} {
			wantNoArray(t, bytesOfArray(inShape(shape, numbered(long)...)))
		}
	}
	for _, n := range []int{301, 302, 511, 512, 513, 556, 767, 768, 1024, 32768, 65280, 65535} {
		for _, shape := range [][]int{{n}, {0, n}, {n, 0}, {n, 0, 0}, {0, n, 0}, {0, 0, n}, {1, n, 0}, {n, n, 0}, {0, 300, n}} {
			wantNoArray(t, bytesOfArray(inShape(shape)))
			wantNoArray(t, bytesOfArray(inShape(shape, 5)))
		}
	}
	for low := range 256 {
		for high := range 256 {
			b := []byte{2, 0, 0, byte(low), byte(high)}
			if low+256*high <= 300 {
				wantArrayRead(t, b, inShape([]int{0, low + 256*high}))
			} else {
				wantNoArray(t, b)
			}
			if low+high > 0 {
				wantNoArray(t, []byte{1, byte(low), byte(high)})
			}
		}
	}
}

// More or fewer numbers than the Shape wants.
func TestArrayReadCountsOfNumbers(t *testing.T) {
	for _, shape := range append(smallShapes(), []int{255}, []int{256}, []int{300}, []int{15, 20}) {
		for _, long := range []int{0, 1, 2, 3, 4, 5, 6, 8, 24, 44, 255, 256, 299, 300, 301} {
			a := inShape(shape, numbered(long)...)
			if long == wantedSize(shape) {
				wantArrayRead(t, bytesOfArray(a), a)
			} else {
				wantNoArray(t, bytesOfArray(a))
			}
		}
	}
}

// Eight bytes that tell more than the greatest number are refused, those too
// that would come round to a right one.
func TestArrayReadNumbersBeyond(t *testing.T) {
	withNumber := func(x uint64) []byte { return binary.LittleEndian.AppendUint64([]byte{0}, x) }
	for _, x := range []uint64{0, 1, top - 1, top, top + 1, 2*top - 1, 2 * top} {
		wantArrayRead(t, withNumber(x), scalar(int(x)-top))
	}
	for _, x := range bytesBeyond() {
		wantNoArray(t, withNumber(x))
		for place := range 3 {
			b := bytesOfArray(vector(5, -6, 7))
			binary.LittleEndian.PutUint64(b[3+8*place:], x)
			wantNoArray(t, b)
		}
	}
	for _, x := range bytesNearEachBit() {
		wantArrayAsModel(t, withNumber(x))
	}
	// The highest byte, beside seven that are those of a right number.
	for _, x := range numbersOfEachWidth() {
		for high := 1; high < 256; high++ {
			b := bytesOfArray(scalar(x))
			b[8] = byte(high)
			wantNoArray(t, b)
		}
	}
}

func TestArrayReadEveryShortList(t *testing.T) {
	for x := range 256 {
		wantNoArray(t, []byte{byte(x)})
		for y := range 256 {
			wantNoArray(t, []byte{byte(x), byte(y)})
		}
	}
	right := 0
	for _, c := range []struct {
		choice []int
		long   int
	}{{[]int{0, 1, 2, 3, 4, 44, 45, 255}, 3}, {[]int{0, 1, 2, 3, 44, 45}, 5}, {[]int{0, 1, 3, 44}, 7}, {[]int{0, 1, 2}, 9}, {[]int{0, 1}, 11}, {[]int{0, 1}, 13}} {
		right += everyBytes(c.choice, c.long, func(b []byte) bool { return wantArrayAsModel(t, b) })
	}
	if right < 100 {
		t.Error("the test itself finds only", right, "that are arrays")
	}
	wantNoArray(t, slices.Repeat([]byte{255}, 100))
	wantNoArray(t, slices.Repeat([]byte{1}, 100000))
	wantNoArray(t, make([]byte, 100000))
}

// Bytes close to those of arrays, by a fixed rule.
func TestArrayReadSpoiled(t *testing.T) {
	var c readCount
	draw := drawing(43)
	for _, a := range arraysToShow() {
		c.spoiled(bytesOfArray(a), 6, draw, func(b []byte) bool { return wantArrayAsModel(t, b) })
	}
	c.want(t, 500)
}
