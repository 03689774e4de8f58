package impl

// MaxNum is as far from nought as a right number may lie.
const MaxNum = 1000000000000

// The codes that functions tell of what they reckoned.
const (
	ErNone = iota
	ErBad
	ErDomain
	ErLength
	ErRank
	ErIndex
	ErLimit
	ErValue
	ErSyntax
	ErFull
	ErSteps
)

// A oneRule is what a sign does to one right number.
type oneRule struct {
	sign int
	does func(x int) (int, int)
}

// A twoRule is what a sign does to two right numbers; whether what comes is
// right is left to its caller.
type twoRule struct {
	sign int
	does func(a int, b int) (int, int)
}

// NumOk tells whether x is a right number.
func NumOk(x int) bool { return -MaxNum <= x && x <= MaxNum }

// One does a sign to one number.
func One(sign int, x int) (int, int) {
	if !NumOk(x) {
		return 0, ErBad
	}
	for _, rule := range oneRules() {
		if rule.sign == sign {
			return rule.does(x)
		}
	}
	return 0, ErBad
}

// Two does a sign to two numbers.
func Two(sign int, a int, b int) (int, int) {
	if !NumOk(a) || !NumOk(b) {
		return 0, ErBad
	}
	for _, rule := range twoRules() {
		if rule.sign == sign {
			x, code := rule.does(a, b)
			return rightOrLimit(x, code)
		}
	}
	return 0, ErBad
}

// Neutral is what a sign makes of no numbers at all.
func Neutral(sign int) (int, bool) {
	switch sign {
	case '+', '-', '|', '<', '>':
		return 0, true
	case '*', '%', '=':
		return 1, true
	case '&':
		return MaxNum, true
	case '^':
		return -MaxNum, true
	}
	return 0, false
}

func oneRules() [5]oneRule {
	return [5]oneRule{
		{'+', itself},
		{'-', negated},
		{'*', direction},
		{'|', magnitude},
		{'~', inverted},
	}
}

func twoRules() [10]twoRule {
	return [10]twoRule{
		{'+', sum},
		{'-', difference},
		{'*', product},
		{'%', quotient},
		{'|', remainder},
		{'&', lesser},
		{'^', greater},
		{'=', isEqual},
		{'<', isBelow},
		{'>', isAbove},
	}
}

func rightOrLimit(x int, code int) (int, int) {
	if code != ErNone {
		return 0, code
	}
	if !NumOk(x) {
		return 0, ErLimit
	}
	return x, ErNone
}

func itself(x int) (int, int) { return x, ErNone }

func negated(x int) (int, int) { return -x, ErNone }

func direction(x int) (int, int) {
	switch {
	case x < 0:
		return -1, ErNone
	case x > 0:
		return 1, ErNone
	}
	return 0, ErNone
}

func magnitude(x int) (int, int) { return withoutSign(x), ErNone }

func inverted(x int) (int, int) {
	if x != 0 && x != 1 {
		return 0, ErDomain
	}
	return 1 - x, ErNone
}

func sum(a int, b int) (int, int) { return a + b, ErNone }

func difference(a int, b int) (int, int) { return a - b, ErNone }

// product looks ahead because two right numbers may multiply to more than an
// int holds: of m and n binary digits come m+n-1 at least. What is let
// through has so few that it is reckoned truly, right or not.
func product(a int, b int) (int, int) {
	if binaryDigits(a)+binaryDigits(b)-1 > binaryDigits(MaxNum) {
		return 0, ErLimit
	}
	return a * b, ErNone
}

func quotient(a int, b int) (int, int) {
	if b == 0 {
		return 0, ErDomain
	}
	return roundedDown(a, b), ErNone
}

func remainder(a int, b int) (int, int) {
	if a == 0 {
		return b, ErNone
	}
	return b - a*roundedDown(b, a), ErNone
}

func lesser(a int, b int) (int, int) { return min(a, b), ErNone }

func greater(a int, b int) (int, int) { return max(a, b), ErNone }

func isEqual(a int, b int) (int, int) { return oneIf(a == b), ErNone }

func isBelow(a int, b int) (int, int) { return oneIf(a < b), ErNone }

func isAbove(a int, b int) (int, int) { return oneIf(a > b), ErNone }

// roundedDown mends Go's quotient, which rounds towards nought: below nought
// it is one too great where something is left over.
func roundedDown(a int, b int) int {
	q := a / b
	if a%b != 0 && (a < 0) != (b < 0) {
		return q - 1
	}
	return q
}

func withoutSign(x int) int {
	if x < 0 {
		return -x
	}
	return x
}

func binaryDigits(x int) int {
	n := 0
	for rest := withoutSign(x); rest > 0; rest >>= 1 {
		n++
	}
	return n
}

func oneIf(so bool) int {
	if so {
		return 1
	}
	return 0
}
