package value

import (
	"math"
	"math/big"
	"regexp"
	"strings"
	"testing"

	"warpbeam/api"
)

// numbers is around 0, around where 8, 16, 32 and 53 bits end, around the
// roots of the greatest number, and at both ends of 64 bits.
var numbers = []int64{
	0, 1, -1, 2, -2, 3, 5, -5, 7, 9, 10, -10, 11, 62, 63, 64, 65, 99, 100, -100,
	127, 128, -128, -129, 255, 256, 32767, 32768, 65535, 65536, -65536,
	1<<31 - 1, 1 << 31, -1 << 31, -1<<31 - 1, 1<<32 - 1, 1 << 32, 1<<32 + 1, -1 << 32,
	1<<53 - 1, 1 << 53, 1<<53 + 1, -1<<53 - 1, 3037000499, 3037000500, -3037000500,
	1<<62 - 1, 1 << 62, -1 << 62, -1<<62 - 1, 1000000000000000000, 1234567890123456789,
	math.MaxInt64 - 1, math.MaxInt64, math.MinInt64 + 1, math.MinInt64,
}

// noKinds is Kinds that there are none of: the nearest ones, some that a cut
// to fewer bits would take for others, and the farthest ones.
var noKinds = []int{-1, -2, 3, 4, 256, 257, 258, 1 << 32, 1<<32 + 1, 1<<32 + 2, math.MaxInt, math.MinInt, math.MinInt + 1, math.MinInt + 2}

// texts is values and their texts, written by hand.
var texts = []struct {
	v Value
	s string
}{
	{Value{Nil, 0}, "nil"},
	{Value{Int, 0}, "0"},
	{Value{Int, 1}, "1"},
	{Value{Int, -1}, "-1"},
	{Value{Int, 9}, "9"},
	{Value{Int, 10}, "10"},
	{Value{Int, -10}, "-10"},
	{Value{Int, 64}, "64"},
	{Value{Int, 1002003}, "1002003"},
	{Value{Int, 1234567890123456789}, "1234567890123456789"},
	{Value{Int, math.MaxInt64}, "9223372036854775807"},
	{Value{Int, -math.MaxInt64}, "-9223372036854775807"},
	{Value{Int, math.MinInt64}, "-9223372036854775808"},
	{Value{Ref, 0}, "@0"},
	{Value{Ref, 3}, "@3"},
	{Value{Ref, 9}, "@9"},
	{Value{Ref, 10}, "@10"},
	{Value{Ref, 62}, "@62"},
	{Value{Ref, 63}, "@63"},
}

// noTexts is what is no value's text.
var noTexts = []string{
	"", " ", "-", "+", "@", "--", "@@", "--1", "-+1", "+-1", "1-", "1-1", "5-",
	"-0", "+0", "00", "-00", "01", "-01", "007", "+1", "+5", "0000000000000000001",
	"@64", "@65", "@99", "@100", "@-1", "@-0", "@+1", "@00", "@01", "@063", "@@1", "-@1", "1@", "@1@", "@ 1", "@nil", "@63 ",
	"@256", "@4294967296", "@9223372036854775807", "@-9223372036854775808", "@18446744073709551616",
	"Nil", "NIL", "nIl", "ni", "nill", "nil0", "nilnil", "-nil", "nil ", " nil", "null", "<nil>", "nil\x00",
	" 1", "1 ", "\t1", "1\n", "1\r\n", "- 1", "1 2", " @1", "\u00a01", "\ufeff1",
	"9223372036854775808", "-9223372036854775809", "9999999999999999999", "-9999999999999999999",
	"10000000000000000000", "18446744073709551615", "18446744073709551616", "18446744073709551617", "-18446744073709551616",
	"09223372036854775807", "-09223372036854775808", "36893488147419103232",
	"1_0", "1,000", "1.0", "1.", ".1", "1e3", "0x1", "0b1", "0o7", "ff", "Inf", "NaN", "true", "1\x00", "\x001", "\x00",
	"\xff", "1\xff", "\u0661", "\uff11", "\u22121", "\u00b9", "@\uff13",
}

// right answers from the words of P6.1.
func right(v Value) bool {
	return v.Kind == 0 && v.N == 0 || v.Kind == 1 || v.Kind == 2 && 0 <= v.N && v.N <= 63
}

var form = regexp.MustCompile(`\A(nil|0|-?[1-9][0-9]*|@(0|[1-9][0-9]*))\z`)

// isText tells from the words of P6.3 whether some value has that text.
func isText(s string) bool {
	if !form.MatchString(s) {
		return false
	}
	if s == "nil" {
		return true
	}
	n, _ := new(big.Int).SetString(strings.TrimPrefix(s, "@"), 10)
	if s[0] == '@' {
		return n.Cmp(big.NewInt(63)) <= 0
	}
	return n.IsInt64()
}

// all is values of every Kind and of some that there are none of, with every
// one of the numbers.
func all() []Value {
	var l []Value
	for _, kind := range append([]int{0, 1, 2}, noKinds...) {
		for _, n := range numbers {
			l = append(l, Value{kind, n})
		}
	}
	return l
}

// round is n as a number of 64 bits that goes round.
func round(n *big.Int) int64 {
	whole := new(big.Int).Lsh(big.NewInt(1), 64)
	n = new(big.Int).Mod(n, whole)
	if n.Bit(63) == 1 {
		n.Sub(n, whole)
	}
	return n.Int64()
}

// sums is the calls that answer a number, and what two numbers come to by them
// if none goes round.
var sums = []struct {
	name string
	call func(a, b Value) (Value, api.Errno)
	big  func(z, x, y *big.Int) *big.Int
}{
	{"Add", Add, (*big.Int).Add},
	{"Sub", Sub, (*big.Int).Sub},
	{"Mul", Mul, (*big.Int).Mul},
}

// refuses checks that s is told to be no value's text.
func refuses(t *testing.T, s string) {
	t.Helper()
	if v, e := Parse(s); v != (Value{}) || e != api.ErrForm {
		t.Errorf("Parse of %d bytes, %.40q: %v, %d", len(s), s, v, e)
	}
}

// P6.1

func TestKinds(t *testing.T) {
	if Nil != 0 || Int != 1 || Ref != 2 {
		t.Errorf("Nil, Int, Ref = %d, %d, %d", Nil, Int, Ref)
	}
}

func TestRight(t *testing.T) {
	for _, c := range texts {
		if !Right(c.v) {
			t.Errorf("Right(%v) = false", c.v)
		}
	}
	for _, v := range all() {
		if Right(v) != right(v) {
			t.Errorf("Right(%v) = %v", v, Right(v))
		}
	}
}

func TestRightNear(t *testing.T) {
	for kind := -10; kind <= 10; kind++ {
		for n := int64(-300); n <= 300; n++ {
			if v := (Value{kind, n}); Right(v) != right(v) {
				t.Errorf("Right(%v) = %v", v, Right(v))
			}
		}
	}
}

// P6.2

func TestSums(t *testing.T) {
	for _, c := range []struct {
		call         func(a, b Value) (Value, api.Errno)
		a, b, answer int64
	}{
		{Add, 2, 3, 5},
		{Add, -2, 3, 1},
		{Add, math.MaxInt64, 1, math.MinInt64},
		{Add, math.MaxInt64, math.MaxInt64, -2},
		{Add, math.MinInt64, -1, math.MaxInt64},
		{Add, math.MinInt64, math.MinInt64, 0},
		{Sub, 2, 3, -1},
		{Sub, 3, -2, 5},
		{Sub, math.MinInt64, 1, math.MaxInt64},
		{Sub, 0, math.MinInt64, math.MinInt64},
		{Sub, math.MaxInt64, -1, math.MinInt64},
		{Mul, 2, 3, 6},
		{Mul, -2, 3, -6},
		{Mul, 0, math.MinInt64, 0},
		{Mul, math.MinInt64, -1, math.MinInt64},
		{Mul, math.MaxInt64, 2, -2},
		{Mul, math.MaxInt64, math.MaxInt64, 1},
		{Mul, 1 << 32, 1 << 32, 0},
	} {
		if v, e := c.call(Value{Int, c.a}, Value{Int, c.b}); v != (Value{Int, c.answer}) || e != api.OK {
			t.Errorf("of %d and %d: %v, %d, not %d", c.a, c.b, v, e, c.answer)
		}
	}
}

func TestSumsOfAll(t *testing.T) {
	for _, c := range sums {
		for _, a := range numbers {
			for _, b := range numbers {
				answer := round(c.big(new(big.Int), big.NewInt(a), big.NewInt(b)))
				if v, e := c.call(Value{Int, a}, Value{Int, b}); v != (Value{Int, answer}) || e != api.OK {
					t.Errorf("%s(%d, %d) = %v, %d, not %d", c.name, a, b, v, e, answer)
				}
			}
		}
	}
}

func TestLess(t *testing.T) {
	for _, a := range numbers {
		for _, b := range numbers {
			below := big.NewInt(a).Cmp(big.NewInt(b)) < 0
			if is, e := Less(Value{Int, a}, Value{Int, b}); is != below || e != api.OK {
				t.Errorf("Less(%d, %d) = %v, %d", a, b, is, e)
			}
		}
	}
}

func TestNoNumbers(t *testing.T) {
	for _, no := range all() {
		if no.Kind == 1 {
			continue
		}
		for _, other := range []Value{no, {Nil, 0}, {Int, 0}, {Int, 5}, {Int, math.MaxInt64}, {Int, math.MinInt64}, {Ref, 2}, {7, 7}} {
			for _, pair := range [][2]Value{{no, other}, {other, no}} {
				a, b := pair[0], pair[1]
				for _, c := range sums {
					if v, e := c.call(a, b); v != (Value{}) || e != api.ErrType {
						t.Errorf("%s(%v, %v) = %v, %d", c.name, a, b, v, e)
					}
				}
				if is, e := Less(a, b); is || e != api.ErrType {
					t.Errorf("Less(%v, %v) = %v, %d", a, b, is, e)
				}
			}
		}
	}
}

// P6.3

func TestPrint(t *testing.T) {
	for _, c := range texts {
		if s := Print(c.v); s != c.s {
			t.Errorf("Print(%v) = %q, not %q", c.v, s, c.s)
		}
	}
	for _, n := range numbers {
		if s := Print(Value{Int, n}); s != big.NewInt(n).String() {
			t.Errorf("Print of %d = %q", n, s)
		}
	}
	for n := int64(0); n <= 63; n++ {
		if s := Print(Value{Ref, n}); s != "@"+big.NewInt(n).String() {
			t.Errorf("Print of variable %d = %q", n, s)
		}
	}
}

func TestPrintOfNone(t *testing.T) {
	for _, v := range all() {
		if s := Print(v); (s == "") == right(v) {
			t.Errorf("Print(%v) = %q", v, s)
		}
	}
}

// P6.4

func TestParse(t *testing.T) {
	for _, c := range texts {
		if v, e := Parse(c.s); v != c.v || e != api.OK {
			t.Errorf("Parse(%q) = %v, %d", c.s, v, e)
		}
	}
}

func TestParseOfNone(t *testing.T) {
	for _, s := range noTexts {
		if isText(s) {
			t.Errorf("%q is a text", s)
		}
		refuses(t, s)
	}
}

func TestParseLong(t *testing.T) {
	for _, n := range []int{20, 21, 22, 64, 1000, 1 << 20} {
		for _, part := range []string{"0", "1", "9", "-", "@", " ", "nil", "a", "\x00", "\xff", "\u0661"} {
			long := strings.Repeat(part, n)
			for _, s := range []string{long, "-" + long, "@" + long, "+" + long, "nil" + long, "1" + long, long + "1", long + "nil"} {
				refuses(t, s)
			}
		}
	}
}

// TestParseEachByte puts every byte into every place of right texts, and in
// place of each of their bytes.
func TestParseEachByte(t *testing.T) {
	for _, c := range texts {
		for i := 0; i <= len(c.s); i++ {
			for b := range 256 {
				parseByWords(t, c.s[:i]+string([]byte{byte(b)})+c.s[i:])
				if i < len(c.s) {
					parseByWords(t, c.s[:i]+string([]byte{byte(b)})+c.s[i+1:])
				}
			}
			parseByWords(t, c.s[:i])
			parseByWords(t, c.s[i:])
		}
	}
}

// TestParseShort goes through all texts of up to four of these bytes.
func TestParseShort(t *testing.T) {
	newest := []string{""}
	for range 4 {
		var longer []string
		for _, s := range newest {
			parseByWords(t, s)
			for _, b := range "nil@-+0136 " {
				longer = append(longer, s+string(b))
			}
		}
		newest = longer
	}
	for _, s := range newest {
		parseByWords(t, s)
	}
}

// parseByWords checks that s is read if it is a text, and that its value is
// then one that has it.
func parseByWords(t *testing.T, s string) {
	t.Helper()
	if !isText(s) {
		refuses(t, s)
		return
	}
	if v, e := Parse(s); e != api.OK || !right(v) || Print(v) != s {
		t.Errorf("Parse(%q) = %v, %d", s, v, e)
	}
}

// P6.5

func TestBackFromTexts(t *testing.T) {
	had := map[string]Value{}
	for _, v := range all() {
		s := Print(v)
		if !right(v) {
			refuses(t, s)
			continue
		}
		if back, e := Parse(s); back != v || e != api.OK {
			t.Errorf("Parse(Print(%v)) = %v, %d", v, back, e)
		}
		if other, is := had[s]; is && other != v {
			t.Errorf("%v and %v have the text %q", other, v, s)
		}
		had[s] = v
	}
}

func TestTakenAwayAgain(t *testing.T) {
	for _, x := range numbers {
		for _, y := range numbers {
			a, b := Value{Int, x}, Value{Int, y}
			sum, _ := Add(a, b)
			if v, e := Sub(sum, b); v != a || e != api.OK {
				t.Errorf("%d and %d, without it: %v, %d", x, y, v, e)
			}
			if v, e := Sub(sum, a); v != b || e != api.OK {
				t.Errorf("%d and %d, without the former: %v, %d", x, y, v, e)
			}
			less, _ := Sub(a, b)
			if v, e := Add(less, b); v != a || e != api.OK {
				t.Errorf("%d without %d, and with it: %v, %d", x, y, v, e)
			}
		}
	}
}

func TestExample(t *testing.T) {
	if s := Print(Value{Ref, 3}); s != "@3" {
		t.Errorf("Print({Ref, 3}) = %q", s)
	}
	refuses(t, "-0")
}
