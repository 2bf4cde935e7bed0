package real_test

import (
	"math"
	"math/rand"
	"slices"
	"strconv"
	"testing"

	"mortmain/api"
	"mortmain/real"
)

const (
	nan      = 0x7FF8000000000000
	posInf   = 0x7FF0000000000000
	negInf   = -0x0010000000000000
	negZero  = math.MinInt
	negNaN   = -0x0008000000000000
	maxFloat = 0x7FEFFFFFFFFFFFFF
	negMax   = negInf - 1
	smallest = 1
	negSmall = math.MinInt + 1
	one      = 0x3FF0000000000000
	negOne   = -0x4010000000000000
)

// ascending holds canonical bits in the order that the document gives.
var ascending = []int{
	negInf, negMax, negOne + 1, negOne, negOne - 1,
	math.MinInt + 0x0010000000000000, math.MinInt + 0x000FFFFFFFFFFFFF, negSmall,
	0, smallest, 2, 0x000FFFFFFFFFFFFF, 0x0010000000000000,
	one - 1, one, one + 1, maxFloat, posInf, nan,
}

// others holds bits that aren't canonical: the negative zero and other NaNs.
var others = []int{
	negZero, negNaN, -1, negInf + 1, negNaN - 1, negNaN + 0x123,
	posInf + 1, posInf + 0x123, nan - 1, nan + 1, nan + 0x123, math.MaxInt,
}

func sample() []int {
	r := rand.New(rand.NewSource(2))
	list := append(slices.Clone(ascending), others...)
	for range 2000 {
		list = append(list, int(r.Uint64()), real.Canon(r.NormFloat64()), real.Canon(float64(r.Intn(2001)-1000)/8))
		// Random bits rarely have an extreme exponent.
		list = append(list, int(r.Uint64()|0x7FF0000000000000), int(r.Uint64()&^0x7FF0000000000000))
	}
	return list
}

// canon says in words of its own which bits are canonical.
func canon(bits int) int {
	exponent, fraction := bits>>52&0x7FF, bits&(1<<52-1)
	if exponent == 0x7FF && fraction != 0 {
		return nan
	}
	if exponent == 0 && fraction == 0 {
		return 0
	}
	return bits
}

// order is the order of the floats: NaN is above all, and equal to itself.
func order(a, b int) int {
	f, g := math.Float64frombits(uint64(a)), math.Float64frombits(uint64(b))
	switch {
	case math.IsNaN(f) && math.IsNaN(g):
		return 0
	case math.IsNaN(f):
		return 1
	case math.IsNaN(g):
		return -1
	case f < g:
		return -1
	case f > g:
		return 1
	}
	return 0
}

func TestCanonOfGood(t *testing.T) {
	for _, bits := range sample() {
		f := math.Float64frombits(uint64(bits))
		if got := real.Canon(f); got != canon(bits) {
			t.Errorf("Canon of %x is %x", uint64(bits), uint64(got))
		}
		if got := int(math.Float64bits(real.Of(bits))); got != bits {
			t.Errorf("Of %x has the bits %x", uint64(bits), uint64(got))
		}
		if got := real.Good(bits); got != (bits == canon(bits)) {
			t.Errorf("Good of %x is %v", uint64(bits), got)
		}
	}
	for _, bits := range ascending {
		if !real.Good(bits) {
			t.Errorf("%x isn't good", uint64(bits))
		}
	}
	for _, bits := range others {
		if real.Good(bits) {
			t.Errorf("%x is good", uint64(bits))
		}
	}
}

func TestCanonOfNamedFloats(t *testing.T) {
	for _, c := range []struct {
		f    float64
		want int
	}{
		{0, 0},
		{math.Copysign(0, -1), 0},
		{math.NaN(), nan},
		{-math.NaN(), nan},
		{math.Inf(1), posInf},
		{math.Inf(-1), negInf},
		{1, one},
		{-1, negOne},
		{math.MaxFloat64, maxFloat},
		{-math.MaxFloat64, negMax},
		{math.SmallestNonzeroFloat64, smallest},
		{-math.SmallestNonzeroFloat64, negSmall},
	} {
		if got := real.Canon(c.f); got != c.want {
			t.Errorf("Canon of %v is %x", c.f, uint64(got))
		}
	}
}

func TestKeyOfNamedBits(t *testing.T) {
	for _, c := range []struct {
		bits int
		want uint64
	}{
		{negInf, 0x000FFFFFFFFFFFFF},
		{negMax, 0x0010000000000000},
		{negOne, 0x400FFFFFFFFFFFFF},
		{negSmall, 0x7FFFFFFFFFFFFFFE},
		{0, 0x8000000000000000},
		{negZero, 0x8000000000000000},
		{smallest, 0x8000000000000001},
		{one, 0xBFF0000000000000},
		{posInf, 0xFFF0000000000000},
		{nan, 0xFFF8000000000000},
		{negNaN, 0xFFF8000000000000},
		{-1, 0xFFF8000000000000},
		{posInf + 1, 0xFFF8000000000000},
		{math.MaxInt, 0xFFF8000000000000},
	} {
		if got := real.Key(c.bits); got != c.want {
			t.Errorf("Key of %x is %x", uint64(c.bits), got)
		}
	}
}

func TestKeysCanBeConvertedBack(t *testing.T) {
	for _, bits := range sample() {
		got, e := real.Back(real.Key(bits))
		if e != api.OK || got != canon(bits) {
			t.Errorf("Back of the Key of %x is %x, %d", uint64(bits), uint64(got), e)
		}
		key := uint64(bits)
		got, e = real.Back(key)
		if e == api.OK && (real.Key(got) != key || got != canon(got)) {
			t.Errorf("Back of %x is %x, whose Key is %x", key, uint64(got), real.Key(got))
		}
		isKey := key >= 0x000FFFFFFFFFFFFF && key <= 0xFFF0000000000000 && key != 0x7FFFFFFFFFFFFFFF || key == 0xFFF8000000000000
		if isKey != (e == api.OK) {
			t.Errorf("Back of %x: %d", key, e)
		}
	}
}

func TestBackOfNoKey(t *testing.T) {
	for _, key := range []uint64{
		0, 1, 0x000FFFFFFFFFFFFE, 0x0007FFFFFFFFFFFF, 0x7FFFFFFFFFFFFFFF,
		0xFFF0000000000001, 0xFFF7FFFFFFFFFFFF, 0xFFF8000000000001, math.MaxUint64,
	} {
		if got, e := real.Back(key); got != 0 || e != api.ErrForm {
			t.Errorf("Back of %x is %x, %d", key, uint64(got), e)
		}
	}
}

func TestOrderOfNamedBits(t *testing.T) {
	for i, a := range ascending {
		for k, b := range ascending {
			want := 0
			if i < k {
				want = -1
			}
			if i > k {
				want = 1
			}
			if got := real.Compare(a, b); got != want {
				t.Errorf("Compare of %x and %x is %d", uint64(a), uint64(b), got)
			}
		}
	}
	for _, bits := range others {
		if bits != negZero && (real.Compare(bits, nan) != 0 || real.Compare(bits, posInf) != 1 || real.Compare(negInf, bits) != -1) {
			t.Errorf("%x isn't the NaN above all", uint64(bits))
		}
	}
	if real.Compare(negZero, 0) != 0 || real.Compare(0, negZero) != 0 || real.Compare(negZero, smallest) != -1 || real.Compare(negZero, negSmall) != 1 {
		t.Error("the negative zero isn't 0")
	}
}

func TestOrderIsTotalAndThatOfKeys(t *testing.T) {
	list := sample()[:1500]
	for i, a := range list {
		if real.Compare(a, a) != 0 {
			t.Fatalf("%x doesn't equal itself", uint64(a))
		}
		for k := range i {
			b := list[k]
			want, x, y := order(a, b), real.Key(a), real.Key(b)
			if real.Compare(a, b) != want || real.Compare(b, a) != -want {
				t.Fatalf("Compare of %x and %x is %d and %d", uint64(a), uint64(b), real.Compare(a, b), real.Compare(b, a))
			}
			if (x < y) != (want < 0) || (x == y) != (want == 0) {
				t.Fatalf("the keys of %x and %x are %x and %x", uint64(a), uint64(b), x, y)
			}
		}
	}
}

func TestOrderIsTransitive(t *testing.T) {
	list := append(sample()[:200], others...)
	for _, a := range list {
		for _, b := range list {
			ab := real.Compare(a, b)
			if ab > 0 {
				continue
			}
			for _, c := range list {
				// From a <= b <= c follows a <= c, and a < c if one of them is <.
				bc := real.Compare(b, c)
				if bc <= 0 && real.Compare(a, c) != min(ab, bc) {
					t.Fatalf("%x, %x and %x are no chain", uint64(a), uint64(b), uint64(c))
				}
			}
		}
	}
}

func TestAddOfNamedFloats(t *testing.T) {
	for _, c := range []struct{ a, b, want float64 }{
		{0.5, 0.25, 0.75},
		{0.1, 0.2, 0.30000000000000004},
		{1, -1, 0},
		{-2.5, 1, -1.5},
		{1, 1e-17, 1},
		{math.Copysign(0, -1), math.Copysign(0, -1), 0},
		{math.Copysign(0, -1), -3, -3},
		{math.MaxFloat64, math.MaxFloat64, math.Inf(1)},
		{-math.MaxFloat64, -math.MaxFloat64, math.Inf(-1)},
		{math.SmallestNonzeroFloat64, math.SmallestNonzeroFloat64, 1e-323},
		{math.Inf(1), -math.MaxFloat64, math.Inf(1)},
		{math.Inf(1), math.Inf(1), math.Inf(1)},
		{math.Inf(1), math.Inf(-1), math.NaN()},
		{math.NaN(), 1, math.NaN()},
	} {
		a, b, want := real.Canon(c.a), real.Canon(c.b), real.Canon(c.want)
		if real.Add(a, b) != want || real.Add(b, a) != want {
			t.Errorf("%v + %v is %v", c.a, c.b, real.Of(real.Add(a, b)))
		}
	}
	if real.Add(negZero, negZero) != 0 || real.Add(negNaN, 0) != nan || real.Add(one, posInf+1) != nan {
		t.Error("sums of bits that aren't canonical")
	}
}

func TestMulOfNamedFloats(t *testing.T) {
	for _, c := range []struct{ a, b, want float64 }{
		{0.5, 0.25, 0.125},
		{0.1, 3, 0.30000000000000004},
		{-2.5, 4, -10},
		{-1, 0, 0},
		{-1, math.Copysign(0, -1), 0},
		{math.MaxFloat64, 2, math.Inf(1)},
		{math.MaxFloat64, -2, math.Inf(-1)},
		{math.SmallestNonzeroFloat64, 0.5, 0},
		{-math.SmallestNonzeroFloat64, 0.5, 0},
		{math.SmallestNonzeroFloat64, 3, 1.5e-323},
		{math.Inf(1), -2, math.Inf(-1)},
		{math.Inf(-1), math.Inf(-1), math.Inf(1)},
		{math.Inf(1), 0, math.NaN()},
		{math.NaN(), 0, math.NaN()},
	} {
		a, b, want := real.Canon(c.a), real.Canon(c.b), real.Canon(c.want)
		if real.Mul(a, b) != want || real.Mul(b, a) != want {
			t.Errorf("%v * %v is %v", c.a, c.b, real.Of(real.Mul(a, b)))
		}
	}
	if real.Mul(negZero, one) != 0 || real.Mul(posInf, negZero) != nan || real.Mul(negNaN, one) != nan || real.Mul(posInf+1, 0) != nan {
		t.Error("products of bits that aren't canonical")
	}
}

func TestAddAndMulOfAllBits(t *testing.T) {
	list := sample()[:400]
	for _, a := range list {
		for _, b := range list {
			f, g := math.Float64frombits(uint64(a)), math.Float64frombits(uint64(b))
			sum, product := int(math.Float64bits(f+g)), int(math.Float64bits(f*g))
			if got := real.Add(a, b); got != canon(sum) {
				t.Fatalf("%x + %x is %x", uint64(a), uint64(b), uint64(got))
			}
			if got := real.Mul(a, b); got != canon(product) {
				t.Fatalf("%x * %x is %x", uint64(a), uint64(b), uint64(got))
			}
		}
	}
}

// A product must be rounded before it is added: else this sum isn't 0.
func TestProductsAreRounded(t *testing.T) {
	x := real.Canon(1 + 0x1p-30)
	negated := real.Canon(-(1 + 0x1p-29))
	if got := real.Add(real.Mul(x, x), negated); got != 0 {
		t.Errorf("the sum is %v", real.Of(got))
	}
}

// texts holds floats with their texts: the rest of a text's form follows Go's.
var texts = []struct {
	bits int
	text string
}{
	{nan, "NaN"},
	{posInf, "+Inf"},
	{negInf, "-Inf"},
	{0, "0"},
	{one, "1"},
	{negOne, "-1"},
	{smallest, "5e-324"},
	{negSmall, "-5e-324"},
	{maxFloat, "1.7976931348623157e+308"},
	{negMax, "-1.7976931348623157e+308"},
	{math.MinInt + 0x0010000000000000, "-2.2250738585072014e-308"},
	{one + 1, "1.0000000000000002"},
	{one - 1, "0.9999999999999999"},
	{int(math.Float64bits(0.1)), "0.1"},
	{int(math.Float64bits(-2.5)), "-2.5"},
	{int(math.Float64bits(100000)), "100000"},
	{int(math.Float64bits(123456.75)), "123456.75"},
	{int(math.Float64bits(1000000)), "1e+06"},
	{int(math.Float64bits(-1234567)), "-1.234567e+06"},
	{int(math.Float64bits(1e21)), "1e+21"},
	{int(math.Float64bits(1e300)), "1e+300"},
	{int(math.Float64bits(0.0001)), "0.0001"},
	{int(math.Float64bits(0.00001)), "1e-05"},
	{int(math.Float64bits(1.0 / 3)), "0.3333333333333333"},
}

func TestTextOfNamedBits(t *testing.T) {
	for _, c := range texts {
		if got := real.Text(c.bits); got != c.text {
			t.Errorf("Text of %x is %s, not %s", uint64(c.bits), got, c.text)
		}
		if got, e := real.Parse(c.text); e != api.OK || got != c.bits {
			t.Errorf("Parse of %s is %x, %d", c.text, uint64(got), e)
		}
	}
	for _, bits := range others {
		want := "NaN"
		if bits == negZero {
			want = "0"
		}
		if got := real.Text(bits); got != want {
			t.Errorf("Text of %x is %s", uint64(bits), got)
		}
	}
}

func TestTextsCanBeConvertedBack(t *testing.T) {
	for _, bits := range sample() {
		text := real.Text(bits)
		if len(text) > api.MaxText {
			t.Errorf("the text %s is too long", text)
		}
		if want := strconv.FormatFloat(math.Float64frombits(uint64(canon(bits))), 'g', -1, 64); text != want {
			t.Errorf("Text of %x is %s, not %s", uint64(bits), text, want)
		}
		if got, e := real.Parse(text); e != api.OK || got != canon(bits) {
			t.Errorf("Parse of %s is %x, %d", text, uint64(got), e)
		}
	}
}

func TestParseOfNoText(t *testing.T) {
	for _, s := range []string{
		"", " ", "x", "-", "+", ".", "e", "1e", "1e+", "--1", "1-", "1,5", "\x00", "\xff", "٣",
		"-0", "+0", "00", "01", "-01", "0.0", "-0.0", "0e+00", "+1", "1.0", "1.50", ".5", "-.5", "5.",
		" 1", "1 ", "1\n", "1\x00", "1_0", "0x10", "0x1p-2", "0b1", "1f",
		"Inf", "inf", "+inf", "-inf", "-INF", "Infinity", "+Infinity", "-infinity", "nan", "NAN", "+NaN", "-NaN", "NaN ",
		"1e300", "1E+300", "1e+0300", "1e0", "1e+00", "1e+6", "1e06", "1000000", "10e+05", "1e+05", "1e-5", "0.00001", "1e-04",
		"1e999", "-1e999", "1e+309", "1e-400", "-1e-400", "3e-324", "4e-324",
		"0.10000000000000001", "0.30000000000000003", "0.333333333333333333", "1.7976931348623158e+308", "1.7976931348623159e+308",
		"0.1000000000000000000000000", "0000000000000000000000001", "-2.22507385850720140e-308", "-2.2250738585072014e-3080", "1.00000000000000000000000000000000000000000000000000000000000",
	} {
		if got, e := real.Parse(s); got != 0 || e != api.ErrForm {
			t.Errorf("Parse of %q is %x, %d", s, uint64(got), e)
		}
	}
}

// Whatever is a text is its float's only one.
func TestParseOfAnyBytes(t *testing.T) {
	r := rand.New(rand.NewSource(3))
	const letters = "0011223456789..+-eeInfNa"
	for range 200000 {
		s := make([]byte, r.Intn(7))
		for i := range s {
			s[i] = letters[r.Intn(len(letters))]
		}
		text := string(s)
		f, err := strconv.ParseFloat(text, 64)
		want := err == nil && strconv.FormatFloat(f, 'g', -1, 64) == text && text != "-0"
		got, e := real.Parse(text)
		if want != (e == api.OK) || want && got != real.Canon(f) || !want && (got != 0 || e != api.ErrForm) {
			t.Fatalf("Parse of %q is %x, %d", text, uint64(got), e)
		}
	}
}
