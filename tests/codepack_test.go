package tests

import (
	"bytes"
	"encoding/binary"
	"math"
	"slices"
	"testing"

	"loop.example/g00182/impl"
)

// looseBytes writes instructions as CodePack has them, right or not; count is
// the first byte.
func looseBytes(count int, code ...impl.Instr) []byte {
	b := []byte{byte(count)}
	for _, x := range code {
		b = append(b, byte(x.Op), byte(x.A), byte(x.F.Sign), byte(x.F.Oper), byte(x.F.With))
		if x.Op != impl.OpNum {
			continue
		}
		b = binary.LittleEndian.AppendUint16(b, uint16(len(x.Nums)))
		for _, n := range x.Nums {
			b = binary.LittleEndian.AppendUint64(b, uint64(n+top))
		}
	}
	return b
}

func wantedPack(code []impl.Instr) []byte {
	if !wantedCodeOk(code) {
		return nil
	}
	return looseBytes(len(code), code...)
}

func wantedNums(r *bytes.Reader) ([]int, bool) {
	var long uint16
	if binary.Read(r, binary.LittleEndian, &long) != nil || r.Len() < 8*int(long) {
		return nil, false
	}
	var nums []int
	for range long {
		var x uint64
		if binary.Read(r, binary.LittleEndian, &x) != nil || x > 2*top {
			return nil, false
		}
		nums = append(nums, int(x)-top)
	}
	return nums, true
}

func wantedRead(b []byte) ([]impl.Instr, bool) {
	r := bytes.NewReader(b)
	count, err := r.ReadByte()
	if err != nil {
		return nil, false
	}
	var code []impl.Instr
	for range count {
		var head [5]byte
		if binary.Read(r, binary.LittleEndian, &head) != nil {
			return nil, false
		}
		x := impl.Instr{Op: int(head[0]), A: int(head[1]), F: impl.Fun{Sign: int(head[2]), Oper: int(head[3]), With: int(head[4])}}
		if x.Op == impl.OpNum {
			nums, ok := wantedNums(r)
			if !ok {
				return nil, false
			}
			x.Nums = nums
		}
		code = append(code, x)
	}
	if r.Len() > 0 || !wantedCodeOk(code) {
		return nil, false
	}
	return code, true
}

// wantReadAsModel sees that what is read is packed as the same bytes again.
func wantReadAsModel(t *testing.T, b []byte) bool {
	t.Helper()
	want, is := wantedRead(b)
	code, ok := impl.CodeRead(b)
	if ok != is || !sameCode(code, want) {
		t.Errorf("CodeRead(%v) = %v, %t; want %v, %t", b, code, ok, want, is)
	}
	if again, packed := impl.CodePack(code); packed != ok || ok && !bytes.Equal(again, b) {
		t.Errorf("%v is read as %v, which is packed as %v", b, code, again)
	}
	return is
}

func wantRead(t *testing.T, b []byte, want ...impl.Instr) {
	t.Helper()
	if code, ok := impl.CodeRead(b); !ok || !sameCode(code, want) {
		t.Errorf("CodeRead(%v) = %v, %t; want %v", b, code, ok, want)
	}
	wantReadAsModel(t, b)
}

func wantNotRead(t *testing.T, b []byte) {
	t.Helper()
	if code, ok := impl.CodeRead(b); ok || len(code) > 0 {
		t.Errorf("CodeRead(%v) = %v, %t", b, code, ok)
	}
	wantReadAsModel(t, b)
}

func wantPacked(t *testing.T, want []byte, code ...impl.Instr) {
	t.Helper()
	if b, ok := impl.CodePack(code); !ok || !bytes.Equal(b, want) {
		t.Errorf("CodePack(%v) = %v, %t; want %v", code, b, ok, want)
	}
	wantRead(t, want, code...)
}

// MaxNum is 232 * 2^32 + 212 * 2^24 + 165 * 2^16 + 16 * 2^8, and twice that is
// what the greatest number is written as.
func TestCodePackOrdinary(t *testing.T) {
	zero := []byte{0, 16, 165, 212, 232, 0, 0, 0}
	one := []byte{1, 16, 165, 212, 232, 0, 0, 0}
	least := []byte{0, 0, 0, 0, 0, 0, 0, 0}
	most := []byte{0, 32, 74, 169, 209, 1, 0, 0}
	below := []byte{255, 15, 165, 212, 232, 0, 0, 0}
	wantPacked(t, slices.Concat([]byte{1, 1, 0, 0, 0, 0, 1, 0}, zero), numInstr(0))
	wantPacked(t, slices.Concat([]byte{1, 1, 0, 0, 0, 0, 1, 0}, one), numInstr(1))
	wantPacked(t, slices.Concat([]byte{1, 1, 0, 0, 0, 0, 1, 0}, below), numInstr(-1))
	wantPacked(t, slices.Concat([]byte{1, 1, 0, 0, 0, 0, 1, 0}, least), numInstr(-top))
	wantPacked(t, slices.Concat([]byte{1, 1, 0, 0, 0, 0, 1, 0}, most), numInstr(top))
	wantPacked(t, slices.Concat([]byte{1, 1, 0, 0, 0, 0, 3, 0}, most, least, one), numInstr(top, -top, 1))
	wantPacked(t, []byte{1, 2, 0, 0, 0, 0}, loadInstr('A'))
	wantPacked(t, []byte{1, 2, 25, 0, 0, 0}, loadInstr('Z'))
	wantPacked(t, []byte{2, 2, 4, 0, 0, 0, 3, 25, 0, 0, 0}, loadInstr('E'), setInstr('Z'))
	wantPacked(t, []byte{2, 2, 4, 0, 0, 0, 4, 0, '~', 0, 0}, loadInstr('E'), oneInstr(plainFun('~')))
	wantPacked(t, []byte{2, 2, 4, 0, 0, 0, 4, 0, '%', '\\', 0}, loadInstr('E'), oneInstr(operFun('%', '\\')))
	wantPacked(t, []byte{3, 2, 0, 0, 0, 0, 2, 1, 0, 0, 0, 5, 0, '@', 0, 0}, loadInstr('A'), loadInstr('B'), twoInstr(plainFun('@')))
	wantPacked(t, []byte{3, 2, 0, 0, 0, 0, 2, 1, 0, 0, 0, 5, 0, '*', 'o', 0}, loadInstr('A'), loadInstr('B'), twoInstr(operFun('*', 'o')))
	wantPacked(t, slices.Concat([]byte{3, 1, 0, 0, 0, 0, 1, 0}, zero, []byte{1, 0, 0, 0, 0, 1, 0}, one, []byte{5, 0, '+', '.', '*'}), numInstr(0), numInstr(1), twoInstr(innerFun('+', '*')))
}

func TestCodePackCounts(t *testing.T) {
	for _, c := range []struct{ long, low, high int }{{1, 1, 0}, {2, 2, 0}, {255, 255, 0}, {256, 0, 1}, {257, 1, 1}, {299, 43, 1}, {300, 44, 1}} {
		nums := numbered(c.long)
		b, ok := impl.CodePack(codeOf(numInstr(nums...)))
		if !ok || len(b) != 8+8*c.long || int(b[6]) != c.low || int(b[7]) != c.high {
			t.Error("of", c.long, "numbers:", b, ok)
		}
		wantRead(t, b, numInstr(nums...))
		code := codeOf(numInstr(nums...), numInstr(nums...), twoInstr(plainFun('-')), setInstr('Z'))
		wantPacked(t, looseBytes(4, code...), code...)
	}
	for count := 1; count <= 60; count++ {
		code := append(codeOf(numInstr(5)), slices.Repeat(codeOf(setInstr('Q')), count-1)...)
		b, ok := impl.CodePack(code)
		if !ok || int(b[0]) != count || len(b) != 1+5*count+10 {
			t.Error("of", count, "instructions:", b, ok)
		}
		wantRead(t, b, code...)
	}
	all := numInstr(slices.Repeat([]int{top}, 300)...)
	code := codeOf(all)
	for range 29 {
		code = append(code, all, twoInstr(plainFun('+')))
	}
	code = append(code, oneInstr(plainFun('-')))
	wantPacked(t, looseBytes(60, code...), code...)
}

// numbersToPack have each byte of theirs at its edges.
func numbersToPack() []int {
	list := rightNumbers()
	for shift := range 40 {
		for _, x := range []int{1<<shift - 1, 1 << shift, 1<<shift + 1} {
			list = append(list, min(x, top), -min(x, top), top-min(x, top), min(x, top)-top)
		}
	}
	return list
}

func TestCodePackNumbers(t *testing.T) {
	for _, x := range numbersToPack() {
		b, ok := impl.CodePack(codeOf(numInstr(x)))
		if !ok || len(b) != 16 || int(binary.LittleEndian.Uint64(b[8:])) != x+top {
			t.Error("CodePack of", x, "=", b, ok)
		}
		wantRead(t, b, numInstr(x))
		wantPacked(t, looseBytes(1, numInstr(7, x, -7)), numInstr(7, x, -7))
	}
}

func TestCodePackEveryLetterAndFunction(t *testing.T) {
	for letter := byte('A'); letter <= 'Z'; letter++ {
		wantPacked(t, []byte{1, 2, letter - 'A', 0, 0, 0}, loadInstr(letter))
		wantPacked(t, []byte{2, 2, letter - 'A', 0, 0, 0, 3, 'Z' - letter, 0, 0, 0}, loadInstr(letter), setInstr('A'+'Z'-letter))
	}
	for _, f := range everyFun() {
		sign, oper, with := byte(f.Sign), byte(f.Oper), byte(f.With)
		one, two := []byte{2, 2, 7, 0, 0, 0, 4, 0, sign, oper, with}, []byte{3, 2, 7, 0, 0, 0, 2, 8, 0, 0, 0, 5, 0, sign, oper, with}
		if wantedFunOne(f) {
			wantPacked(t, one, loadInstr('H'), oneInstr(f))
		} else {
			wantNotRead(t, one)
		}
		if wantedFunTwo(f) {
			wantPacked(t, two, loadInstr('H'), loadInstr('I'), twoInstr(f))
		} else {
			wantNotRead(t, two)
		}
	}
}

// What is not right has no bytes, though a byte may be too short to tell.
func TestCodePackOfWhatIsNotCode(t *testing.T) {
	for _, code := range [][]impl.Instr{nil, {}, {{}}, {numInstr()}, {numInstr(top + 1)}, {numInstr(-top - 1)}, {numInstr(1), numInstr(1)}, {setInstr('A')}, {oneInstr(plainFun('-'))}, {twoInstr(plainFun('-'))},
		{numInstr(1), {Op: impl.OpSet, A: 256}}, {{Op: impl.OpLoad, A: -256}}, {{Op: impl.OpLoad + 256}}, {{Op: impl.OpLoad, A: 26}}, {{Op: impl.OpLoad, A: -1}}, {{Op: impl.OpNum, A: 256, Nums: []int{1}}},
		{numInstr(1), oneInstr(impl.Fun{Sign: '-' + 256})}, {numInstr(1), oneInstr(impl.Fun{Sign: '-', Oper: 256})}, {numInstr(1), oneInstr(impl.Fun{Sign: '-', With: 256})}, {numInstr(numbered(301)...)}, {numInstr(numbered(256 * 256)...)},
		{numInstr(numbered(256*256 + 1)...)}, append(codeOf(numInstr(1)), slices.Repeat(codeOf(setInstr('A')), 60)...), append(codeOf(numInstr(1)), slices.Repeat(codeOf(setInstr('A')), 256)...),
		{numInstr(1), {Op: impl.OpSet, Nums: []int{1}}}, {numInstr(1), {Op: impl.OpSet, F: plainFun('+')}}, {numInstr(1), {Op: impl.OpOne, A: 1, F: plainFun('-')}}} {
		if b, ok := impl.CodePack(code); ok || len(b) > 0 {
			t.Errorf("CodePack(%v) = %v, %t", code, b, ok)
		}
		wantCodeOk(t, false, code...)
	}
}

// codesToSpoil have each kind of instruction, and few bytes.
func codesToSpoil() [][]impl.Instr {
	return [][]impl.Instr{
		codeOf(loadInstr('A')), codeOf(numInstr(0)), codeOf(numInstr(-top)), codeOf(numInstr(top)), codeOf(numInstr(top, -top, 7)), codeOf(loadInstr('B'), setInstr('Z')), codeOf(loadInstr('A'), oneInstr(plainFun('i'))),
		codeOf(numInstr(3), oneInstr(operFun('+', '/')), setInstr('A'), oneInstr(operFun('-', '\\'))), codeOf(loadInstr('A'), loadInstr('B'), twoInstr(plainFun('t'))), codeOf(loadInstr('A'), loadInstr('B'), twoInstr(innerFun('+', '*'))),
		codeOf(numInstr(3), oneInstr(plainFun('i')), numInstr(2), twoInstr(operFun('-', 'o')), setInstr('A')), codeOf(loadInstr('A'), loadInstr('B'), loadInstr('C'), twoInstr(plainFun('-')), twoInstr(plainFun('+'))),
		codeOf(loadInstr('A'), numInstr(5), twoInstr(plainFun('-')), numInstr(6), twoInstr(plainFun('-'))),
	}
}

func TestCodeReadCutShortAndLong(t *testing.T) {
	wantNotRead(t, nil)
	wantNotRead(t, []byte{})
	codes := append(codesToSpoil(), codeOf(numInstr(numbered(256)...)), codeOf(numInstr(numbered(300)...), setInstr('A')))
	for _, code := range append(codes, grownCodes(60)...) {
		b := looseBytes(len(code), code...)
		wantRead(t, b, code...)
		for long := range b {
			wantNotRead(t, b[:long:long])
		}
		for _, more := range [][]byte{{0}, {1}, {255}, {0, 0, 0, 0, 0}, {3, 0, 0, 0, 0}, b} {
			wantNotRead(t, slices.Concat(b, more))
			wantNotRead(t, slices.Concat(more, b))
		}
		// Whatever is in the spare room behind it is not read.
		for long := range b {
			wantNotRead(t, b[:long])
		}
	}
}

// A readCount is how many lists of bytes were told to be right, and how many
// not.
type readCount struct{ right, wrong int }

func (c *readCount) count(is bool) {
	if is {
		c.right++
	} else {
		c.wrong++
	}
}

func (c *readCount) want(t *testing.T, least int) {
	t.Helper()
	if c.right < least || c.wrong < least {
		t.Error("the test itself hardly asks for both:", *c)
	}
}

// eachByteChanged has each byte in turn as each other one, left out, and
// doubled; b is the same again behind it.
func (c *readCount) eachByteChanged(b []byte, read func(b []byte) bool) {
	for at, was := range b {
		for x := range 256 {
			b[at] = byte(x)
			c.count(read(b))
		}
		b[at] = was
		read(slices.Delete(slices.Clone(b), at, at+1))
		read(slices.Insert(slices.Clone(b), at, 0))
		read(slices.Insert(slices.Clone(b), at, was))
	}
}

// spoiled has bytes close to b: one left out, put in, turned, or changed with
// another one, as is drawn.
func (c *readCount) spoiled(b []byte, times int, draw func(n int) int, read func(b []byte) bool) {
	for range times {
		at, other := draw(len(b)), draw(len(b))
		list := slices.Clone(b)
		switch draw(5) {
		case 0:
			list = slices.Delete(list, at, at+1)
		case 1:
			list = slices.Insert(list, at, byte(draw(256)))
		case 2:
			list[at] = byte(draw(6))
		case 3:
			list[at] ^= 1 << draw(8)
		default:
			list[at], list[other] = list[other], list[at]
		}
		c.count(read(list))
	}
}

// Each byte is in turn each other one: nearly always there is no code then,
// and where there is it is that of the changed bytes.
func TestCodeReadEachByteChanged(t *testing.T) {
	var c readCount
	for _, code := range codesToSpoil() {
		c.eachByteChanged(looseBytes(len(code), code...), func(b []byte) bool { return wantReadAsModel(t, b) })
	}
	c.want(t, 1000)
}

// changed is the bytes of code with one of them another one.
func changed(at int, x byte, code ...impl.Instr) []byte {
	b := looseBytes(len(code), code...)
	b[at] = x
	return b
}

func TestCodeReadOneByteWrong(t *testing.T) {
	load, minus := loadInstr('A'), plainFun('-')
	for x := range 256 {
		b := byte(x)
		if b != 2 {
			wantNotRead(t, changed(0, b, load, setInstr('A')))
		}
		if b != 3 && b != 4 {
			wantNotRead(t, changed(6, b, load, oneInstr(minus)))
		}
		if b != 2 {
			wantNotRead(t, changed(1, b, load))
		}
		if b > 25 {
			wantNotRead(t, changed(2, b, load))
			wantNotRead(t, changed(7, b, load, setInstr('A')))
		}
		if b != 0 {
			wantNotRead(t, changed(3, b, load))
			wantNotRead(t, changed(4, b, load))
			wantNotRead(t, changed(5, b, load))
			wantNotRead(t, changed(2, b, numInstr(1)))
			wantNotRead(t, changed(3, b, numInstr(1)))
			wantNotRead(t, changed(4, b, numInstr(1)))
			wantNotRead(t, changed(5, b, numInstr(1)))
			wantNotRead(t, changed(7, b, load, oneInstr(minus)))
			wantNotRead(t, changed(10, b, load, oneInstr(minus)))
			wantNotRead(t, changed(12, b, load, load, twoInstr(minus)))
			wantNotRead(t, changed(7, b, numInstr(1)))
		}
		if b != 1 {
			wantNotRead(t, changed(6, b, numInstr(1)))
		}
		if !isByteOf(rightAlone, x) {
			wantNotRead(t, changed(8, b, load, oneInstr(minus)))
		}
		if !isByteOf(eitherSide, x) {
			wantNotRead(t, changed(13, b, load, load, twoInstr(minus)))
		}
		if !isByteOf(signsOfTwo, x) {
			wantNotRead(t, changed(8, b, load, oneInstr(operFun('-', '/'))))
			wantNotRead(t, changed(13, b, load, load, twoInstr(innerFun('-', '+'))))
			wantNotRead(t, changed(15, b, load, load, twoInstr(innerFun('-', '+'))))
		}
		if x != 0 && x != '/' && x != '\\' {
			wantNotRead(t, changed(9, b, load, oneInstr(minus)))
		}
		if x != 0 && x != 'o' {
			wantNotRead(t, changed(14, b, load, load, twoInstr(minus)))
		}
	}
}

// bytesBeyond are eight bytes each that tell more than the greatest number.
func bytesBeyond() []uint64 {
	return []uint64{2*top + 1, 2*top + 2, 3 * top, 1 << 41, 1 << 48, 1 << 56, 1 << 62, 1<<63 - 1, 1 << 63, 1<<63 + 1, 1<<63 + top, 1<<63 + 2*top, math.MaxUint64 - top, math.MaxUint64 - 1, math.MaxUint64}
}

func bytesNearEachBit() []uint64 {
	var list []uint64
	for shift := range 64 {
		list = append(list, 1<<shift-1, 1<<shift, 1<<shift+1, 1<<shift+top, 1<<shift-top, 1<<shift+2*top, -(1 << shift))
	}
	return list
}

func TestCodeReadNumbersBeyond(t *testing.T) {
	withNumber := func(x uint64) []byte {
		return binary.LittleEndian.AppendUint64([]byte{1, 1, 0, 0, 0, 0, 1, 0}, x)
	}
	for _, x := range []uint64{0, 1, top - 1, top, top + 1, 2*top - 1, 2 * top} {
		wantRead(t, withNumber(x), numInstr(int(x)-top))
	}
	for _, x := range bytesBeyond() {
		wantNotRead(t, withNumber(x))
		b := binary.LittleEndian.AppendUint64(looseBytes(1, numInstr(5)), x)
		b[6] = 2
		wantNotRead(t, b)
	}
	for _, x := range bytesNearEachBit() {
		wantReadAsModel(t, withNumber(x))
	}
}

// Bytes that are written as CodePack would write them, of what is not code.
func TestCodeReadOfWhatIsNotCode(t *testing.T) {
	load, minus := loadInstr('A'), plainFun('-')
	for _, code := range [][]impl.Instr{{}, {{}}, {{Op: 6}}, {{Op: 255}}, {load, load}, {setInstr('A')}, {oneInstr(minus)}, {twoInstr(minus)}, {load, twoInstr(minus)}, {load, twoInstr(minus), load, load}, {load, load, load, twoInstr(minus)},
		{load, load, twoInstr(minus), twoInstr(minus)}, {numInstr()}, {numInstr(), setInstr('A')}, {numInstr(numbered(301)...)}, {numInstr(numbered(5000)...)}, {numInstr(numbered(65535)...)}, {numInstr(top + 1)}, {numInstr(1, -top-1)},
		{load, oneInstr(plainFun('%'))}, {load, load, twoInstr(plainFun('i'))}, {loadInstr('Z' + 1)}, {load, {}}, {{}, load}, slices.Repeat(codeOf(load), 255),
		append(codeOf(load), slices.Repeat(codeOf(setInstr('A')), 60)...), append(codeOf(load), slices.Repeat(codeOf(setInstr('A')), 254)...)} {
		wantNotRead(t, looseBytes(len(code), code...))
	}
	long := append(codeOf(load), slices.Repeat(codeOf(setInstr('A')), 256)...)
	wantRead(t, looseBytes(60, long[:60]...), long[:60]...)
	wantNotRead(t, looseBytes(61, long[:61]...))
	wantNotRead(t, looseBytes(256, long[:256]...))
	wantNotRead(t, looseBytes(257, long...))
	for count := range 256 {
		if count != 5 {
			wantNotRead(t, looseBytes(count, long[:5]...))
		}
	}
}

// A count of numbers that tells of more than there is, or of fewer.
func TestCodeReadCountsOfNumbers(t *testing.T) {
	for _, long := range []int{1, 2, 255, 256, 300} {
		for _, told := range []int{0, 1, 2, 44, 254, 255, 256, 257, 299, 300, 301, 512, 65535} {
			b := looseBytes(1, numInstr(numbered(long)...))
			binary.LittleEndian.PutUint16(b[6:], uint16(told))
			if told == long {
				wantRead(t, b, numInstr(numbered(long)...))
			} else {
				wantNotRead(t, b)
			}
			wantNotRead(t, append(b, make([]byte, 8)...)[:8+8*long+7])
		}
	}
	wantNotRead(t, append([]byte{1, 1, 0, 0, 0, 0, 0, 0}, make([]byte, 8)...))
	wantNotRead(t, []byte{1, 1, 0, 0, 0, 0, 255, 255})
	wantNotRead(t, slices.Repeat([]byte{255}, 100))
	wantNotRead(t, slices.Repeat([]byte{1}, 100000))
}

// everyBytes reads all lists of that many bytes of choice, and tells how many
// are right.
func everyBytes(choice []int, long int, read func(b []byte) bool) int {
	var c readCount
	everyList(choice, long, func(list []int) {
		b := make([]byte, len(list))
		for i, x := range list {
			b[i] = byte(x)
		}
		c.count(read(b))
	})
	return c.right
}

func TestCodeReadEveryShortList(t *testing.T) {
	for x := range 256 {
		wantNotRead(t, []byte{byte(x)})
		for y := range 256 {
			wantNotRead(t, []byte{byte(x), byte(y)})
		}
	}
	right := 0
	for _, c := range []struct {
		choice []int
		long   int
	}{{[]int{0, 1, 2, 3, 5, 25, 26, 255}, 5}, {[]int{0, 1, 2, 3, 25, 26}, 6}, {[]int{0, 1, 2, 4}, 8}, {[]int{0, 2, 3}, 11}} {
		right += everyBytes(c.choice, c.long, func(b []byte) bool { return wantReadAsModel(t, b) })
	}
	if right < 5 {
		t.Error("the test itself finds only", right, "that are code")
	}
}

// Bytes close to those of code, by a fixed rule.
func TestCodeReadSpoiled(t *testing.T) {
	var c readCount
	draw := drawing(41)
	for _, code := range grownCodes(600) {
		c.spoiled(looseBytes(len(code), code...), 12, draw, func(b []byte) bool { return wantReadAsModel(t, b) })
	}
	c.want(t, 500)
}
