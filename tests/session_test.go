package tests

import (
	"slices"
	"strings"
	"testing"

	"loop.example/g00182/impl"
)

func wantSession(t *testing.T, text string, want string, lines int) {
	t.Helper()
	if said, n := impl.Session(text); said != want || n != lines {
		t.Errorf("Session(%q) = %q, %d; want %q, %d", text, said, n, want, lines)
	}
}

// wantedSessionLines goes byte by byte.
func wantedSessionLines(text string) []string {
	var lines []string
	line := []byte{}
	for _, b := range []byte(text) {
		if b == 10 {
			lines, line = append(lines, string(line)), nil
		} else {
			line = append(line, b)
		}
	}
	if len(line) > 0 {
		lines = append(lines, string(line))
	}
	return lines
}

// wantedSession types lines one behind the other, each as type tells it.
func wantedSession(text string, typed func(vars []impl.Var, line string) ([]impl.Var, string)) (string, int) {
	if len(text) > 8000 {
		return "", -1
	}
	lines := wantedSessionLines(text)
	if len(lines) > 60 {
		return "", -2
	}
	said, vars := "", make([]impl.Var, 26)
	for _, line := range lines {
		then, told := typed(vars, line)
		vars = then
		if told != "" {
			said += told + "\n"
		}
	}
	return said, len(lines)
}

// wantSessionAsModel asks for what the models tell, and for what TypeLine tells
// line by line.
func wantSessionAsModel(t *testing.T, text string) (string, int) {
	t.Helper()
	want, lines := wantedSession(text, wantedTyped)
	wantSession(t, text, want, lines)
	if byLine, n := wantedSession(text, impl.TypeLine); byLine != want || n != lines {
		t.Errorf("%q typed line by line tells %q; want %q", text, byLine, want)
	}
	return want, lines
}

func TestSessionOrdinary(t *testing.T) {
	wantSession(t, "1", "1\n", 1)
	wantSession(t, "1\n", "1\n", 1)
	wantSession(t, "1\n2", "1\n2\n", 2)
	wantSession(t, "1\n2\n", "1\n2\n", 2)
	wantSession(t, "_1 2 3", "_1 2 3\n", 1)
	wantSession(t, "A : 5\nA\nA + 1", "5\n6\n", 3)
	wantSession(t, "A : 5\nA\nA + 1\n", "5\n6\n", 3)
	wantSession(t, "A\nA : 5\nA", "value\n5\n", 3)
	wantSession(t, "A : 2 2 # i 4\nA\nz A\n+ / A\nA + . * A", "0 1\n2 3\n0 2\n1 3\n2 4\n 2  3\n 6 11\n", 5)
	wantSession(t, "2 2 2 # i 8\n7", "0 1\n2 3\n\n4 5\n6 7\n7\n", 2)
	wantSession(t, "A : B : 3\nA + B\nC : A + B : 4\nC\nB", "6\n7\n4\n", 5)
	wantSession(t, "A : 1 2\nB : A , A\nA : 9\nB , A", "1 2 1 2 9\n", 4)
	wantSession(t, "1 % 0\n1 2 + 1 2 3\ng 1\n3 @ 1 2\ni 301\nQ\n)\nx", "domain\nlength\nrank\nindex\nlimit\nvalue\nsyntax\nsyntax\n", 8)
}

// A line with a code sets nothing, and the next ones go on.
func TestSessionGoesOnBehindACode(t *testing.T) {
	wantSession(t, "A : 1\n( 1 % 0 ) , A : 2\nA", "domain\n1\n", 3)
	wantSession(t, "( 1 % 0 ) , A : 2\nA\nA : 3\nA", "domain\nvalue\n3\n", 4)
	wantSession(t, "A : 1\nA : 2 )\nA : 3 x\nA : 1000000000001\nA : Q\nA", "syntax\nsyntax\nlimit\nvalue\n1\n", 6)
	wantSession(t, "x\nx\n1", "syntax\nsyntax\n1\n", 3)
	wantSession(t, "1 + A : 4\nA", "5\n4\n", 2)
}

// Each line has MaxSteps of its own.
func TestSessionStepsOfEachLine(t *testing.T) {
	line := strings.Repeat("-", 59) + "1\n"
	wantSession(t, strings.Repeat(line, 60), strings.Repeat("_1\n", 60), 60)
}

func TestSessionWithoutLines(t *testing.T) {
	wantSession(t, "", "", 0)
	wantSession(t, "\n", "", 1)
	wantSession(t, "\n\n", "", 2)
	wantSession(t, "\n\n\n", "", 3)
	wantSession(t, " ", "", 1)
	wantSession(t, " \n", "", 1)
	wantSession(t, "\n ", "", 2)
	wantSession(t, " \n ", "", 2)
	wantSession(t, "  \n\n   \n", "", 3)
}

// A line of nothing counts, and tells nothing, wherever it stands.
func TestSessionLinesOfNothing(t *testing.T) {
	wantSession(t, "\n1\n2", "1\n2\n", 3)
	wantSession(t, "1\n\n2", "1\n2\n", 3)
	wantSession(t, "1\n2\n\n", "1\n2\n", 3)
	wantSession(t, "\n\n1\n\n\n2\n\n", "1\n2\n", 7)
	wantSession(t, "1\n   \n2", "1\n2\n", 3)
	wantSession(t, "A : 1\n\nA\n\n", "1\n", 4)
	wantSession(t, "i 0\n1\ni 0", "1\n", 3)
	wantSession(t, "2 0 # 5\n1\n3 0 # 5\n2", "\n\n1\n\n\n\n2\n", 4)
}

// The byte 10 alone parts lines: each other byte is one of its line.
func TestSessionPartsAtOneByte(t *testing.T) {
	for x := range 256 {
		for _, text := range []string{string([]byte{'1', byte(x), '2'}), string([]byte{byte(x)}), string([]byte{'3', byte(x)}), string([]byte{byte(x), '3'}), string([]byte{'3', byte(x), 10}), string([]byte{10, byte(x), 10, '4'})} {
			wantSessionAsModel(t, text)
		}
	}
	wantSession(t, "1\r\n2", "syntax\n2\n", 2)
	wantSession(t, "1\v2", "syntax\n", 1)
	wantSession(t, "1\x002\n3", "syntax\n3\n", 2)
	wantSession(t, "1\u20282\u0085\n3", "syntax\n3\n", 2)
}

func TestSessionHowManyLines(t *testing.T) {
	for _, line := range []string{"", " ", "7", "x", "A : 7"} {
		for _, count := range []int{1, 2, 58, 59, 60, 61, 62, 100, 1000} {
			text := strings.Repeat(line+"\n", count)
			wantSessionAsModel(t, text)
			wantSessionAsModel(t, strings.TrimSuffix(text, "\n"))
			wantSessionAsModel(t, text+" ")
			wantSessionAsModel(t, text+"8")
		}
	}
	seven := strings.Repeat("7\n", 60)
	wantSession(t, seven, seven, 60)
	wantSession(t, seven[:119], seven, 60)
	wantSession(t, seven+"7", "", -2)
	wantSession(t, seven+"7\n", "", -2)
	wantSession(t, seven+" ", "", -2)
	wantSession(t, strings.Repeat("\n", 60), "", 60)
	wantSession(t, strings.Repeat("\n", 61), "", -2)
	wantSession(t, strings.Repeat("\n", 60)+"7", "", -2)
	wantSession(t, strings.Repeat("\n", 59)+"7", "7\n", 60)
}

func TestSessionHowManyBytes(t *testing.T) {
	for _, long := range []int{299, 300, 301, 7999, 8000, 8001, 8002, 20000, 1 << 20} {
		for _, b := range []string{" ", "7", "x", "\n", "\x00", "(", "\xff"} {
			wantSessionAsModel(t, strings.Repeat(b, long))
			wantSessionAsModel(t, "7\n"+strings.Repeat(b, long-2))
			wantSessionAsModel(t, strings.Repeat(b, long-2)+"\n7")
			wantSessionAsModel(t, strings.Repeat(b, long-2)+"7\n")
		}
	}
	wantSession(t, strings.Repeat(" ", 8000), "", 1)
	wantSession(t, strings.Repeat(" ", 8001), "", -1)
	wantSession(t, "7\n"+strings.Repeat(" ", 7998), "7\n", 2)
	wantSession(t, "7\n"+strings.Repeat(" ", 7999), "", -1)
	wantSession(t, strings.Repeat("7", 8000), "limit\n", 1)
	// Letters of several bytes count with all of them.
	wantSession(t, strings.Repeat("é", 4000), "limit\n", 1)
	wantSession(t, strings.Repeat("é", 4000)+" ", "", -1)
}

// MaxText bytes in MaxLines lines, of which each tells something.
func TestSessionOfTheMost(t *testing.T) {
	line := "7" + strings.Repeat(" ", 132) + "\n"
	text := strings.Repeat(line, 59) + "8" + strings.Repeat(" ", 8000-59*134-2) + "\n"
	if len(text) != 8000 {
		t.Fatal("the test itself has", len(text), "bytes")
	}
	wantSession(t, text, strings.Repeat("7\n", 59)+"8\n", 60)
	wantSession(t, text[:7999]+" ", strings.Repeat("7\n", 59)+"8\n", 60)
	wantSession(t, text+" ", "", -1)
	wantSession(t, strings.Replace(text, " ", "\n", 1), "", -2)
	// As much as can be told: of each line 300 numbers in a wide column.
	wide := strings.Repeat("_1000000000000+i 300\n", 60)
	wantSessionAsModel(t, wide)
	wantSessionAsModel(t, strings.Repeat("300 1#_1000000000000+i 300\n", 60))
}

// Too long a text counts ahead of too many lines.
func TestSessionWhichIsFirst(t *testing.T) {
	wantSession(t, strings.Repeat("\n", 8000), "", -2)
	wantSession(t, strings.Repeat("\n", 8001), "", -1)
	wantSession(t, strings.Repeat("7\n", 4000), "", -2)
	wantSession(t, strings.Repeat("7\n", 4000)+"7", "", -1)
	wantSession(t, strings.Repeat("\n", 61)+strings.Repeat(" ", 7939), "", -2)
	wantSession(t, strings.Repeat("\n", 61)+strings.Repeat(" ", 7940), "", -1)
	wantSession(t, strings.Repeat("x", 8001), "", -1)
}

// sessionTexts are drawn by a fixed rule: lines that set and ask for few
// letters, right and spoiled ones, and lines of nothing between them.
func sessionTexts(count int) []string {
	var list []string
	draw := drawing(172)
	lines := append(lineTexts(3000), "", "", " ", "A : i 4", "A", "B : A", "A + B", "C", "C : B , 7", "D : 2 2 # 5", "D", "E : 1", "E", "E : E + 1", "A : 0", "1 2 3")
	for _, line := range lines[len(lines)-16:] {
		lines = append(lines, slices.Repeat([]string{line}, 150)...)
	}
	for range count {
		var text strings.Builder
		for range draw(63) {
			line := lines[draw(len(lines))]
			if text.Len()+len(line) > 8100 {
				break
			}
			text.WriteString(line + "\n")
		}
		list = append(list, strings.TrimSuffix(text.String(), []string{"", "\n"}[draw(2)]))
	}
	return list
}

// Promise 17: a session tells what TypeLine tells, line by line.
func TestSessionsTellWhatTypeLineTells(t *testing.T) {
	counts := map[int]int{}
	told := 0
	for _, text := range sessionTexts(700) {
		said, lines := wantSessionAsModel(t, text)
		counts[min(lines, 30)]++
		told += strings.Count(said, "\n")
	}
	if counts[30] < 200 || counts[-1]+counts[-2] < 5 || len(counts) < 25 || told < 10000 {
		t.Error("the test itself hardly has sessions of each kind:", counts, told)
	}
}

// Promise 17: typed again, what was told of two numbers or more tells itself.
func TestWhatWasToldTypedAgain(t *testing.T) {
	wantSession(t, "1 2 3\n_4 5\n1000000000000 0\n", "1 2 3\n_4 5\n1000000000000 0\n", 3)
	draw := drawing(173)
	for range 200 {
		var typed strings.Builder
		for range 1 + draw(60) {
			typed.WriteString([]string{"i ", "r i ", "- i ", "_7 + i ", "5 - i ", "3 * i "}[draw(6)] + impl.ShowNum(2+draw(60)) + "\n")
		}
		told, lines := impl.Session(typed.String())
		if len(told) <= 8000 {
			wantSession(t, told, told, lines)
			wantSession(t, strings.TrimSuffix(told, "\n"), told, lines)
		}
	}
}
