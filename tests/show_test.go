package tests

import (
	"fmt"
	"slices"
	"strconv"
	"strings"
	"testing"

	"loop.example/g00182/impl"
)

func wantedWord(x int) string { return strings.Replace(fmt.Sprint(x), "-", "_", 1) }

func isRight(x int) bool { return x >= -top && x <= top }

func allAreRight(list []int) bool {
	return !slices.ContainsFunc(list, func(x int) bool { return !isRight(x) })
}

// wantedLines writes rows of that many numbers, each in wide bytes at least.
func wantedLines(data []int, rows int, columns int, wide int) string {
	var text strings.Builder
	for i := range rows {
		if i > 0 {
			text.WriteByte(10)
		}
		for j := range columns {
			if j > 0 {
				text.WriteByte(32)
			}
			fmt.Fprintf(&text, "%*s", wide, wantedWord(data[i*columns+j]))
		}
	}
	return text.String()
}

func wantedWide(list []int) int {
	if !allAreRight(list) {
		return -1
	}
	wide := 0
	for wide < 20 && slices.ContainsFunc(list, func(x int) bool { return len(wantedWord(x)) > wide }) {
		wide++
	}
	return wide
}

func wantedArrayOk(a impl.Array) bool {
	return wantedSize(a.Shape) == len(a.Data) && allAreRight(a.Data)
}

func wantedShow(a impl.Array) string {
	if !wantedArrayOk(a) {
		return ""
	}
	wide := wantedWide(a.Data)
	switch s := a.Shape; len(s) {
	case 2:
		return wantedLines(a.Data, s[0], s[1], wide)
	case 3:
		text := ""
		for i := range s[0] {
			if i > 0 {
				text += "\n\n"
			}
			text += wantedLines(a.Data[i*s[1]*s[2]:], s[1], s[2], wide)
		}
		return text
	}
	return wantedLines(a.Data, 1, len(a.Data), 0)
}

func wantShown(t *testing.T, want string, a impl.Array) {
	t.Helper()
	if got := impl.Show(a); got != want {
		t.Errorf("Show(%v) = %q; want %q", a, got, want)
	}
}

// wantRow asks for the text of numbers, and for how wide the widest of them is.
func wantRow(t *testing.T, want string, wide int, list ...int) {
	t.Helper()
	if got := impl.ShowRow(list); got != want {
		t.Errorf("ShowRow(%v) = %q; want %q", list, got, want)
	}
	if got := impl.ShowWide(list); got != wide {
		t.Errorf("ShowWide(%v) = %d; want %d", list, got, wide)
	}
}

// wantRowAsModel asks for a row as a list, and as a vector.
func wantRowAsModel(t *testing.T, list []int) {
	t.Helper()
	want := ""
	if allAreRight(list) {
		want = wantedLines(list, 1, len(list), 0)
	}
	wantRow(t, want, wantedWide(list), list...)
	if len(list) <= 300 {
		wantShown(t, want, vector(list...))
	}
}

func wantNumShown(t *testing.T, want string, x int) {
	t.Helper()
	if got := impl.ShowNum(x); got != want {
		t.Errorf("ShowNum(%d) = %q; want %q", x, got, want)
	}
	if want == "" {
		wantRow(t, "", -1, x)
		wantShown(t, "", scalar(x))
		wantShown(t, "", inShape([]int{1, 1}, x))
		return
	}
	wantRow(t, want, len(want), x)
	for _, shape := range [][]int{{}, {1}, {1, 1}, {1, 1, 1}} {
		wantShown(t, want, inShape(shape, x))
	}
}

// numbersOfEachWidth has for each number of bytes the least and the greatest
// numbers that are written in as many.
func numbersOfEachWidth() []int {
	list := []int{0, 1, -1, 5, -5, 9, -9}
	for x := 10; x <= top; x *= 10 {
		list = append(list, x-1, 1-x, x, -x, min(x+1, top), -min(x+1, top))
	}
	return list
}

func TestShowNumOrdinary(t *testing.T) {
	wantNumShown(t, "0", 0)
	wantNumShown(t, "1", 1)
	wantNumShown(t, "_1", -1)
	wantNumShown(t, "7", 7)
	wantNumShown(t, "_9", -9)
	wantNumShown(t, "10", 10)
	wantNumShown(t, "_10", -10)
	wantNumShown(t, "12345", 12345)
	wantNumShown(t, "_100200", -100200)
}

func TestShowNumAtTheLimits(t *testing.T) {
	wantNumShown(t, "1000000000000", top)
	wantNumShown(t, "_1000000000000", -top)
	wantNumShown(t, "999999999999", top-1)
	wantNumShown(t, "_999999999999", 1-top)
	for _, x := range wrongNumbers() {
		wantNumShown(t, "", x)
	}
}

// What is written is one token, which is the number again.
func TestShowNumIsReadAsItself(t *testing.T) {
	list := append(numbersOfEachWidth(), rightNumbers()...)
	for x := -1100; x <= 1100; x++ {
		list = append(list, x)
	}
	draw := drawing(16)
	for range 2000 {
		x := draw(1<<20)<<20 | draw(1<<20)
		list = append(list, x%top, -(x % top))
	}
	for _, x := range list {
		wantNumShown(t, wantedWord(x), x)
		wantLex(t, impl.ShowNum(x), numToken(x))
	}
}

func TestShowRowOrdinary(t *testing.T) {
	wantRow(t, "", 0)
	wantRow(t, "0", 1, 0)
	wantRow(t, "_4", 2, -4)
	wantRow(t, "1 _2", 2, 1, -2)
	wantRow(t, "0 0 0", 1, 0, 0, 0)
	wantRow(t, "1 _20 3", 3, 1, -20, 3)
	wantRow(t, "100 10 1", 3, 100, 10, 1)
	wantRow(t, "1 10 100", 3, 1, 10, 100)
	wantRow(t, "_9 99", 2, -9, 99)
	wantRow(t, "99 _99 99", 3, 99, -99, 99)
	wantRow(t, "1000000000000 _1000000000000 0", 14, top, -top, 0)
	if impl.ShowRow(nil) != "" || impl.ShowWide(nil) != 0 || impl.ShowWide([]int{}) != 0 {
		t.Error("of none there is another text or width")
	}
}

// The widest number counts wherever it stands, and so does one below nought.
func TestShowWideAtEachPlace(t *testing.T) {
	for _, long := range []int{1, 2, 3, 8, 299, 300, 301} {
		for place := range long {
			for _, x := range []int{0, 10, -1, -10, 12345, top, -top} {
				list := make([]int, long)
				list[place] = x
				wantRow(t, wantedLines(list, 1, long, 0), len(wantedWord(x)), list...)
			}
		}
	}
}

func TestShowRowOfEachWidth(t *testing.T) {
	list := numbersOfEachWidth()
	for from := range list {
		for to := from; to <= len(list); to++ {
			wantRowAsModel(t, list[from:to])
		}
	}
	for _, x := range list {
		for _, y := range list {
			wantRowAsModel(t, []int{x, y})
		}
	}
}

// No limit is named of how many numbers a row has.
func TestShowRowOfManyNumbers(t *testing.T) {
	for _, long := range []int{4, 299, 300, 301, 302, 1000, 65536, 100000} {
		wantRowAsModel(t, numbered(long))
	}
	wantRow(t, strings.Repeat("_1000000000000 ", 4999)+"_1000000000000", 14, slices.Repeat([]int{-top}, 5000)...)
}

// One number that is not right is enough, wherever it stands.
func TestShowRowOfWrongNumbers(t *testing.T) {
	for _, long := range []int{1, 2, 3, 7, 300, 301} {
		for place := range long {
			for _, x := range wrongNumbers() {
				list := numbered(long)
				list[place] = x
				wantRow(t, "", -1, list...)
				if long <= 300 {
					wantShown(t, "", vector(list...))
				}
			}
		}
	}
	wantRow(t, "", -1, wrongNumbers()...)
}

func TestShowOrdinary(t *testing.T) {
	wantShown(t, "7", scalar(7))
	wantShown(t, "_7", scalar(-7))
	wantShown(t, "7", vector(7))
	wantShown(t, "1 _20 300", vector(1, -20, 300))
	wantShown(t, "1 2\n3 4", inShape([]int{2, 2}, 1, 2, 3, 4))
	wantShown(t, "1 2 3\n4 5 6", inShape([]int{2, 3}, 1, 2, 3, 4, 5, 6))
	wantShown(t, "1 2\n3 4\n5 6", inShape([]int{3, 2}, 1, 2, 3, 4, 5, 6))
	wantShown(t, "  1 _20\n300   4", inShape([]int{2, 2}, 1, -20, 300, 4))
	wantShown(t, " 1  2\n_3  4", inShape([]int{2, 2}, 1, 2, -3, 4))
	wantShown(t, "1 2\n3 4\n\n5 6\n7 8", inShape([]int{2, 2, 2}, 1, 2, 3, 4, 5, 6, 7, 8))
	wantShown(t, "  1   2\n  3   4\n\n  5   6\n  7 _80", inShape([]int{2, 2, 2}, 1, 2, 3, 4, 5, 6, 7, -80))
	wantShown(t, "10  2\n\n 3  4\n\n 5  6", inShape([]int{3, 1, 2}, 10, 2, 3, 4, 5, 6))
}

// One row or one column of rank 2 is written in one width, too; a vector is
// not.
func TestShowOfOneRowColumnOrPart(t *testing.T) {
	wantShown(t, "1 20 300", vector(1, 20, 300))
	wantShown(t, "  1  20 300", inShape([]int{1, 3}, 1, 20, 300))
	wantShown(t, "  1\n 20\n300", inShape([]int{3, 1}, 1, 20, 300))
	wantShown(t, "  1  20 300", inShape([]int{1, 1, 3}, 1, 20, 300))
	wantShown(t, "  1\n 20\n300", inShape([]int{1, 3, 1}, 1, 20, 300))
	wantShown(t, "  1\n\n 20\n\n300", inShape([]int{3, 1, 1}, 1, 20, 300))
	wantShown(t, " 1  2\n 3 40", inShape([]int{1, 2, 2}, 1, 2, 3, 40))
	wantShown(t, "7", inShape([]int{1, 1}, 7))
	wantShown(t, "7", inShape([]int{1, 1, 1}, 7))
}

func TestShowWithoutNumbers(t *testing.T) {
	for _, c := range []struct {
		shape []int
		want  string
	}{
		{[]int{0}, ""}, {[]int{0, 0}, ""}, {[]int{0, 1}, ""}, {[]int{0, 5}, ""}, {[]int{0, 300}, ""},
		{[]int{1, 0}, ""}, {[]int{2, 0}, "\n"}, {[]int{3, 0}, "\n\n"}, {[]int{300, 0}, strings.Repeat("\n", 299)},
		{[]int{0, 0, 0}, ""}, {[]int{0, 2, 3}, ""}, {[]int{0, 0, 3}, ""}, {[]int{0, 2, 0}, ""}, {[]int{0, 300, 300}, ""},
		{[]int{1, 0, 3}, ""}, {[]int{2, 0, 3}, "\n\n"}, {[]int{3, 0, 3}, "\n\n\n\n"}, {[]int{2, 0, 0}, "\n\n"}, {[]int{300, 0, 300}, strings.Repeat("\n", 598)},
		{[]int{1, 1, 0}, ""}, {[]int{1, 2, 0}, "\n"}, {[]int{2, 1, 0}, "\n\n"}, {[]int{2, 3, 0}, "\n\n" + "\n\n" + "\n\n"}, {[]int{3, 2, 0}, "\n" + "\n\n" + "\n" + "\n\n" + "\n"},
		{[]int{300, 300, 0}, strings.Repeat("\n", 300*299+299*2)},
	} {
		wantShown(t, c.want, impl.Array{Shape: c.shape})
		wantShown(t, c.want, impl.Array{Shape: c.shape, Data: []int{}})
	}
}

// arraysToShow has each shape with numbers of one width, of several, and with
// one wide number at some places.
func arraysToShow() []impl.Array {
	var list []impl.Array
	for _, shape := range everyShape() {
		list = append(list, numberedArray(shape), repeated(shape, []int{0}, 0), repeated(shape, []int{-top}, 0), repeated(shape, []int{7, 8, 9}, 1))
		for start := range 5 {
			list = append(list, repeated(shape, numbersOfEachWidth(), 7*start), repeated(shape, []int{1, -20, 300, -4000, 5}, start))
		}
		size := wantedSize(shape)
		for place := 0; place < size; place += 1 + size/20 {
			a := repeated(shape, []int{3, 4, 5}, 0)
			a.Data[place] = -1000
			list = append(list, a)
		}
	}
	return list
}

func TestShowAsModel(t *testing.T) {
	for _, a := range arraysToShow() {
		wantShown(t, wantedShow(a), a)
	}
}

// partsOf is the texts of the parts of rank 2 of an array with numbers.
func partsOf(text string, rank int) []string {
	if rank < 3 {
		return []string{text}
	}
	return strings.Split(text, "\n\n")
}

// numbersIn reads the numbers of a line.
func numbersIn(t *testing.T, line string) []int {
	t.Helper()
	var list []int
	for _, word := range strings.Fields(line) {
		x, err := strconv.Atoi(strings.Replace(word, "_", "-", 1))
		if err != nil {
			t.Errorf("%q has the word %q", line, word)
		}
		list = append(list, x)
	}
	return list
}

// Promise 16: what is shown of rank 2 has a line for each row, all as long. So
// has each part of rank 3, in the same width.
func TestShowLinesAreAllAsLong(t *testing.T) {
	for _, a := range arraysToShow() {
		rank := len(a.Shape)
		if rank < 2 || len(a.Data) == 0 {
			continue
		}
		text, rows, columns := impl.Show(a), a.Shape[rank-2], a.Shape[rank-1]
		long := columns*(impl.ShowWide(a.Data)+1) - 1
		parts := partsOf(text, rank)
		if len(parts)*rows*columns != len(a.Data) {
			t.Errorf("%v is shown in %d parts: %q", a, len(parts), text)
		}
		var numbers []int
		for _, part := range parts {
			lines := strings.Split(part, "\n")
			if len(lines) != rows {
				t.Errorf("%v is shown in %d lines a part: %q", a, len(lines), text)
			}
			for _, line := range lines {
				if len(line) != long || strings.HasSuffix(line, " ") || len(strings.Fields(line)) != columns {
					t.Errorf("%v is shown in a line %q; want %d bytes", a, line, long)
				}
				numbers = append(numbers, numbersIn(t, line)...)
			}
		}
		if !slices.Equal(numbers, a.Data) {
			t.Errorf("%v is shown with other numbers: %q", a, text)
		}
	}
}

// Each part of rank 3 is shown as an array of rank 2 would be that is as wide.
func TestShowPartsOfRank3(t *testing.T) {
	for _, a := range arraysToShow() {
		if len(a.Shape) != 3 || len(a.Data) == 0 {
			continue
		}
		wide := slices.MinFunc(a.Data, func(x, y int) int { return len(wantedWord(y)) - len(wantedWord(x)) })
		var texts []string
		for _, part := range impl.Rows(a) {
			// A row more at the end has the widest number, and is cut away.
			rows := impl.Array{Shape: []int{part.Shape[0] + 1, part.Shape[1]}, Data: slices.Concat(part.Data, slices.Repeat([]int{wide}, part.Shape[1]))}
			if !impl.ArrayOk(rows) {
				break
			}
			text := impl.Show(rows)
			texts = append(texts, text[:strings.LastIndex(text, "\n")])
		}
		if len(texts) == a.Shape[0] {
			wantShown(t, strings.Join(texts, "\n\n"), a)
		}
	}
}

func TestShowOfMaxSize(t *testing.T) {
	for _, shape := range [][]int{{300}, {1, 300}, {300, 1}, {15, 20}, {20, 15}, {2, 150}, {10, 10, 3}, {3, 10, 10}, {1, 1, 300}, {300, 1, 1}, {1, 300, 1}} {
		for _, list := range [][]int{{-top}, {top, -top, 0}, numbered(300), {0}} {
			a := repeated(shape, list, 0)
			wantShown(t, wantedShow(a), a)
		}
	}
	wantShown(t, strings.Repeat("_1000000000000\n", 299)+"_1000000000000", repeated([]int{300, 1}, []int{-top}, 0))
}

func TestShowOfWrongOnes(t *testing.T) {
	wantShown(t, "", impl.Array{})
	for _, a := range everyWrongArray() {
		wantShown(t, "", a)
	}
	for _, shape := range [][]int{{2, 0}, {2, 0, 3}, {2, 3, 0}} {
		wantShown(t, "", inShape(shape, 1))
	}
	// Rows of which there are none may not extend too far either.
	for _, shape := range [][]int{{2, 0, 301}, {0, 301}, {301, 0}, {3, 0, -1}, {2, 0, 1, 1}} {
		wantShown(t, "", inShape(shape))
	}
}

// lineOutcome is what a text comes to as a line.
func lineOutcome(t *testing.T, text string) outcome {
	t.Helper()
	list, code, _ := impl.Lex(text)
	if code != impl.ErNone {
		return outcome{code: code}
	}
	tree, code := impl.Parse(list)
	steps, ok := impl.Compile(tree)
	if code != impl.ErNone || !ok {
		t.Errorf("%q is no line", text)
	}
	return runOf(steps, impl.VarsNew(), 100)
}

// A shown row of two or more is a line that comes to itself; a single number
// comes to a scalar, and a text that is longer than a line to no array.
func TestShownRowComesToItself(t *testing.T) {
	lists := [][]int{{top, -top}, {0, 0}, {-1, 0, 1}, numbersOfEachWidth()[:30], slices.Repeat([]int{7}, 150), slices.Repeat([]int{7}, 151), numbered(45), numbered(300)}
	draw := drawing(61)
	for range 500 {
		list := make([]int, 2+draw(40))
		for i := range list {
			list[i] = (draw(1<<20) - 1<<19) % (1 + draw(100000))
		}
		lists = append(lists, list)
	}
	for _, list := range lists {
		text := impl.ShowRow(list)
		got := lineOutcome(t, text)
		if len(text) > 300 {
			if got.code != impl.ErLimit {
				t.Errorf("%q has %d bytes, but comes to %v", text, len(text), got)
			}
			continue
		}
		if got.code != impl.ErNone || !alike(got.array, vector(list...)) || impl.Show(got.array) != text {
			t.Errorf("%q comes to %v", text, got)
		}
	}
	for _, x := range numbersOfEachWidth() {
		if got := lineOutcome(t, impl.Show(vector(x))); got.code != impl.ErNone || !alike(got.array, scalar(x)) {
			t.Errorf("%d comes to %v", x, got)
		}
	}
}
