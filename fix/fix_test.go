package fix_test

import (
	"math"
	"math/big"
	"strings"
	"testing"

	"tiller/api"
	"tiller/fix"
)

const least = -api.Most - 1

// edges are numbers at which something may turn over.
func edges() []api.Num {
	l := []api.Num{least, -api.Most, -api.Most + 1, api.Most, api.Most - 1, 0}
	for _, x := range []api.Num{1, 2, 3, 7, 10, 32767, 32768, 32769, 65535, 65536, 65537, 98304, 131072, 196608, 1 << 24, 1<<30 - 1, 1 << 30, 1<<30 + 1} {
		l = append(l, x, -x)
	}
	return l
}

// nearest is x / d by rationals, halves away from nought; d isn't 0.
func nearest(x, d *big.Int) *big.Int {
	two := big.NewInt(2)
	n := new(big.Int).Mul(new(big.Int).Abs(x), two)
	m := new(big.Int).Abs(d)
	n.Add(n, m)
	n.Quo(n, new(big.Int).Mul(m, two))
	if x.Sign()*d.Sign() < 0 {
		n.Neg(n)
	}
	return n
}

// bounded is the nearest number from -Most to Most.
func bounded(x *big.Int) api.Num {
	most := big.NewInt(int64(api.Most))
	if x.CmpAbs(most) > 0 {
		return api.Num(int64(x.Sign()) * most.Int64())
	}
	return api.Num(x.Int64())
}

// P1.1
func TestSat(t *testing.T) {
	for x, want := range map[int64]api.Num{
		0: 0, 1: 1, -1: -1, 65536: 65536,
		2147483646: 2147483646, 2147483647: api.Most, 2147483648: api.Most,
		-2147483646: -2147483646, -2147483647: -api.Most, -2147483648: -api.Most, -2147483649: -api.Most,
		1 << 32: api.Most, 1<<32 + 5: api.Most, -1 << 32: -api.Most,
		math.MaxInt64: api.Most, math.MinInt64: -api.Most,
	} {
		if y := fix.Sat(x); y != want {
			t.Errorf("Sat(%d): %d", x, y)
		}
	}
}

// P1.1
func TestAddSub(t *testing.T) {
	for _, a := range edges() {
		for _, b := range edges() {
			x, y := big.NewInt(int64(a)), big.NewInt(int64(b))
			if s := fix.Add(a, b); s != bounded(new(big.Int).Add(x, y)) {
				t.Errorf("Add(%d, %d): %d", a, b, s)
			}
			if s := fix.Sub(a, b); s != bounded(new(big.Int).Sub(x, y)) {
				t.Errorf("Sub(%d, %d): %d", a, b, s)
			}
		}
	}
	if fix.Add(api.Most, 1) != api.Most || fix.Add(least, 0) != -api.Most || fix.Sub(0, least) != api.Most || fix.Sub(least, least) != 0 {
		t.Error("bounds")
	}
}

// P1.1
func TestRound(t *testing.T) {
	for _, c := range [][3]int64{
		{0, 1, 0}, {7, 1, 7}, {-7, 1, -7},
		{1, 2, 1}, {-1, 2, -1}, {3, 2, 2}, {-3, 2, -2}, {5, 2, 3}, {-5, 2, -3},
		{1, 3, 0}, {2, 3, 1}, {-1, 3, 0}, {-2, 3, -1}, {4, 3, 1}, {5, 3, 2},
		{32767, 65536, 0}, {32768, 65536, 1}, {-32767, 65536, 0}, {-32768, 65536, -1},
		{math.MaxInt64, 1, math.MaxInt64}, {math.MinInt64, 1, math.MinInt64},
		{math.MaxInt64, 2, 1 << 62}, {math.MinInt64, 2, -1 << 62},
		{math.MaxInt64, 1 << 62, 2}, {math.MinInt64, 1 << 62, -2},
		{1 << 61, 1 << 62, 1}, {1<<61 - 1, 1 << 62, 0}, {-1 << 61, 1 << 62, -1}, {-1<<61 + 1, 1 << 62, 0},
		{1<<62 + 1<<61, 1 << 62, 2}, {1<<62 + 1<<61 - 1, 1 << 62, 1},
	} {
		if q := fix.Round(c[0], c[1]); q != c[2] {
			t.Errorf("Round(%d, %d): %d", c[0], c[1], q)
		}
	}
	for x := int64(-200); x <= 200; x++ {
		for d := int64(1); d <= 20; d++ {
			if q := fix.Round(x, d); q != nearest(big.NewInt(x), big.NewInt(d)).Int64() {
				t.Errorf("Round(%d, %d): %d", x, d, q)
			}
		}
	}
}

// P1 (K7): divisors of which it isn't asked make no panic.
func TestRoundEnds(t *testing.T) {
	for _, d := range []int64{0, -1, -65536, math.MinInt64, 1<<62 + 1, math.MaxInt64} {
		for _, x := range []int64{0, 1, -1, math.MaxInt64, math.MinInt64} {
			fix.Round(x, d)
		}
	}
}

// P1.1
func TestMul(t *testing.T) {
	for _, c := range [][3]api.Num{
		{98304, 98304, 147456}, {1, 32768, 1}, {-1, 32768, -1}, {1, 32767, 0}, {-1, 32767, 0}, {3, 32768, 2}, {-3, 32768, -2},
		{least, least, api.Most}, {least, api.Most, -api.Most}, {api.Most, api.Most, api.Most}, {least, api.One, -api.Most}, {least, -api.One, api.Most},
	} {
		if p := fix.Mul(c[0], c[1]); p != c[2] {
			t.Errorf("Mul(%d, %d): %d", c[0], c[1], p)
		}
	}
	one := big.NewInt(65536)
	for _, a := range edges() {
		for _, b := range edges() {
			want := bounded(nearest(new(big.Int).Mul(big.NewInt(int64(a)), big.NewInt(int64(b))), one))
			if p := fix.Mul(a, b); p != want {
				t.Errorf("Mul(%d, %d): %d, not %d", a, b, p, want)
			}
		}
	}
}

// P1.1
func TestDiv(t *testing.T) {
	for _, c := range [][3]api.Num{
		{65536, 196608, 21845}, {131072, 196608, 43691}, {-65536, 196608, -21845}, {65536, -196608, -21845},
		{1, 131072, 1}, {-1, 131072, -1}, {1, -131072, -1}, {-1, -131072, 1}, {1, 131073, 0},
		{least, -1, api.Most}, {least, 1, -api.Most}, {least, least, 65536}, {api.Most, 1, api.Most}, {0, least, 0}, {least, 65536, -api.Most}, {1, least, 0},
	} {
		if q, e := fix.Div(c[0], c[1]); q != c[2] || e != api.OK {
			t.Errorf("Div(%d, %d): %d, %d", c[0], c[1], q, e)
		}
	}
	for _, a := range edges() {
		for _, b := range edges() {
			want, wrong := api.Num(0), api.ErrZero
			if b != 0 {
				x := new(big.Int).Mul(big.NewInt(int64(a)), big.NewInt(65536))
				want, wrong = bounded(nearest(x, big.NewInt(int64(b)))), api.OK
			}
			if q, e := fix.Div(a, b); q != want || e != wrong {
				t.Errorf("Div(%d, %d): %d, %d, not %d, %d", a, b, q, e, want, wrong)
			}
		}
	}
}

// P1.1
func TestOf(t *testing.T) {
	for n, want := range map[int]api.Num{
		0: 0, 1: 65536, -1: -65536, -3: -196608,
		32767: 32767 * 65536, -32767: -32767 * 65536, 32768: api.Most, -32768: -api.Most, 65536: api.Most, -65537: -api.Most,
		1 << 40: api.Most, -1 << 40: -api.Most, math.MaxInt: api.Most, math.MinInt: -api.Most,
	} {
		if x := fix.Of(n); x != want {
			t.Errorf("Of(%d): %d", n, x)
		}
	}
}

// P1.1
func TestFloor(t *testing.T) {
	for x, want := range map[api.Num]int{
		0: 0, 1: 0, 65535: 0, 65536: 1, 98304: 1, api.Most: 32767,
		-1: -1, -65535: -1, -65536: -1, -65537: -2, -api.Most: -32768, least: -32768,
	} {
		if n := fix.Floor(x); n != want {
			t.Errorf("Floor(%d): %d", x, n)
		}
	}
}

// P1.2
func TestText(t *testing.T) {
	for x, want := range map[api.Num]string{
		0: "0", 65536: "1", -65536: "-1", 98304: "1.5", 32768: "0.5", -32768: "-0.5", 655360: "10", 6553600: "100",
		1: "0.0000152587890625", -1: "-0.0000152587890625", 65535: "0.9999847412109375",
		api.Most: "32767.9999847412109375", -api.Most: "-32767.9999847412109375", least: "-32768",
	} {
		if s := fix.Text(x); s != want {
			t.Errorf("Text(%d): %q", x, s)
		}
	}
	for _, x := range edges() {
		r, ok := new(big.Rat).SetString(fix.Text(x))
		if !ok || r.Cmp(big.NewRat(int64(x), 65536)) != 0 {
			t.Errorf("Text(%d): %q", x, fix.Text(x))
		}
	}
}

// P1.2
func TestParse(t *testing.T) {
	for s, want := range map[string]api.Num{
		"0": 0, "-0": 0, "-0.0": 0, "000000": 0, "00.5": 32768, "1": 65536, "-1.25": -81920, "000001": 65536, "-000001.50": -98304,
		"32767": 32767 * 65536, "32767.99999": api.Most, "-32767.99999": -api.Most, "32767.9999847412109375": api.Most, "032767.5": 32767*65536 + 32768,
		"0.0000152587890625": 1, "0.0000076293945313": 1, "0.0000076293945312": 0, "-0.0000076293945313": -1, "-0.0000076293945312": 0,
		"0.00002": 1, "0.9999999999999999": 65536, "1.0000000000000000": 65536, "0.1": 6554, "-0.1": -6554, "3.14159": 205887,
		// The last text that isn't too great.
		"32767.9999923706054687": api.Most, "-32767.9999923706054687": -api.Most,
	} {
		if x, e := fix.Parse(s); x != want || e != api.OK {
			t.Errorf("Parse(%q): %d, %d", s, x, e)
		}
	}
}

// P1.2
func TestParseIsNearest(t *testing.T) {
	for _, whole := range []string{"0", "7", "00012", "32766"} {
		for _, part := range []string{"1", "3", "05", "99", "123456789", "0000228881835937", "0000228881835938", "7654321", "9999999999999999"} {
			for _, sign := range []string{"", "-"} {
				s := sign + whole + "." + part
				r, _ := new(big.Rat).SetString(s)
				r.Mul(r, big.NewRat(65536, 1))
				if x, e := fix.Parse(s); int64(x) != nearest(r.Num(), r.Denom()).Int64() || e != api.OK {
					t.Errorf("Parse(%q): %d, %d", s, x, e)
				}
			}
		}
	}
}

// P1.2
func TestParseWrong(t *testing.T) {
	for _, s := range []string{
		"", "-", "--1", "+1", "-+1", "1-", " 1", "1 ", "1\n", ".", "-.", ".5", "-.5", "1.", "-1.", "1..2", "1.2.3", "1,5", "1.-5", "1.+5",
		"1234567", "0000000", "-1234567", "0.12345678901234567", "0.00000000000000000", "1e5", "0x1", "1_0", "a", "1a", "1.5a", "NaN", "Inf",
		"\x00", "1\x00", "/", ":", "0.1/", "0.1:", "\u0661", "\uff11", "\xff", "99999999.", "1234567.5",
		strings.Repeat("1", 100000), "0." + strings.Repeat("1", 100000),
	} {
		if x, e := fix.Parse(s); x != 0 || e != api.ErrText {
			t.Errorf("Parse(%.40q): %d, %d", s, x, e)
		}
	}
	for _, s := range []string{"32768", "-32768", "32768.0", "32767.999999", "-32767.999999", "32767.9999923706054688", "-32767.9999923706054688", "999999", "-999999", "999999.9999999999999999", "065536", "65535.9999"} {
		if x, e := fix.Parse(s); x != 0 || e != api.ErrBig {
			t.Errorf("Parse(%q): %d, %d", s, x, e)
		}
	}
}

// P1.3
func TestParseOfText(t *testing.T) {
	again := func(x api.Num) {
		if y, e := fix.Parse(fix.Text(x)); y != x || e != api.OK {
			t.Errorf("Parse(Text(%d)): %d, %d", x, y, e)
		}
	}
	for x := api.Num(-70000); x <= 70000; x++ {
		again(x)
	}
	for x := -int64(api.Most); x <= int64(api.Most); x += 49999 {
		again(api.Num(x))
	}
	for _, x := range edges() {
		if x != least {
			again(x)
		}
	}
	// The least Num is no number that is answered: its text is too great.
	if x, e := fix.Parse(fix.Text(least)); x != 0 || e != api.ErrBig {
		t.Errorf("Parse(Text(%d)): %d, %d", least, x, e)
	}
}
