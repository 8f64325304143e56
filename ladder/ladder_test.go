package ladder

import (
	"crypto/elliptic"
	"crypto/sha512"
	"math/big"
	"slices"
	"testing"

	"escutcheon/api"
	"escutcheon/curve"
	"escutcheon/limb"
	"escutcheon/order"
)

const top = 1<<64 - 1

var (
	none = api.Point{None: true}
	most = api.U384{top, top, top, top, top, top}
)

func bigOf(a api.U384) *big.Int { return new(big.Int).SetBytes(limb.Bytes(a)) }

func numberOf(n *big.Int) api.U384 {
	a, err := limb.From(n.FillBytes(make([]byte, 48)))
	if err != nil {
		panic(err)
	}
	return a
}

func bigP() *big.Int { return elliptic.P384().Params().P }

func bigN() *big.Int { return elliptic.P384().Params().N }

// nearN is the order and d.
func nearN(d int64) api.U384 { return numberOf(new(big.Int).Add(bigN(), big.NewInt(d))) }

// nearP is the prime and d.
func nearP(d int64) api.U384 { return numberOf(new(big.Int).Add(bigP(), big.NewInt(d))) }

// anyNumber is some number of 384 bits, another for each text.
func anyNumber(text string) api.U384 {
	digest := sha512.Sum384([]byte(text))
	return numberOf(new(big.Int).SetBytes(digest[:]))
}

// pointAt is the point with the even y at some x.
func pointAt(x int64) api.Point {
	bx := new(big.Int).Mod(big.NewInt(x), bigP())
	square := new(big.Int).Exp(bx, big.NewInt(3), nil)
	square.Sub(square, new(big.Int).Mul(big.NewInt(3), bx)).Add(square, elliptic.P384().Params().B)
	y := new(big.Int).ModSqrt(square.Mod(square, bigP()), bigP())
	if y == nil {
		panic("there is no point at that x")
	}
	if y.Bit(0) == 1 {
		y.Sub(bigP(), y)
	}
	return api.Point{X: numberOf(bx), Y: numberOf(y)}
}

// times is k times a point by another program.
func times(k *big.Int, p api.Point) api.Point {
	k = new(big.Int).Mod(k, bigN())
	if p.None || k.Sign() == 0 {
		return none
	}
	x, y := elliptic.P384().ScalarMult(bigOf(p.X), bigOf(p.Y), k.Bytes())
	return api.Point{X: numberOf(x), Y: numberOf(y)}
}

func sum(t *testing.T, p, q api.Point) api.Point {
	t.Helper()
	s, err := curve.Add(p, q)
	if err != nil {
		t.Fatalf("Add(%v, %v): %v", p, q, err)
	}
	return s
}

func neg(t *testing.T, p api.Point) api.Point {
	t.Helper()
	n, err := curve.Neg(p)
	if err != nil {
		t.Fatalf("Neg(%v): %v", p, err)
	}
	return n
}

func mul(t *testing.T, k api.U384, p api.Point) api.Point {
	t.Helper()
	m, err := Mul(k, p)
	if err != nil {
		t.Fatalf("Mul(%x, %v): %v", k, p, err)
	}
	return m
}

func two(t *testing.T, u, v api.U384, q api.Point) api.Point {
	t.Helper()
	s, err := Two(u, v, q)
	if err != nil {
		t.Fatalf("Two(%x, %x, %v): %v", u, v, q, err)
	}
	return s
}

// numbers are the edges, numbers with few bits or few noughts, and others.
func numbers() []api.U384 {
	return []api.U384{
		{}, {1}, {2}, {3}, {7}, {1 << 63}, {top}, {0, 1}, {5: 1 << 63}, {5: 1},
		nearN(-2), nearN(-1), nearN(0), nearN(1), nearN(2),
		{top - 1, top, top, top, top, top}, most,
		{0x5555555555555555, 0x5555555555555555, 0x5555555555555555, 0x5555555555555555, 0x5555555555555555, 0x5555555555555555},
		anyNumber("one"), anyNumber("two"), anyNumber("three"),
	}
}

// points are G, its opposite, another multiple, points of other x (0 among them), and the one at
// infinity.
func points() []api.Point {
	g := curve.G()
	return []api.Point{
		g, times(big.NewInt(-1), g), times(bigOf(anyNumber("G")), g),
		pointAt(0), pointAt(2), pointAt(-3), none,
	}
}

type noPoint struct {
	what string
	p    api.Point
}

func noPoints() []noPoint {
	g, atZero, atTwo := curve.G(), pointAt(0), pointAt(2)
	turnedX, turnedY := g, g
	turnedX.X[0] ^= 1
	turnedY.Y[5] ^= 1 << 63
	return []noPoint{
		{"the zero value", api.Point{}},
		{"None beside G", api.Point{X: g.X, Y: g.Y, None: true}},
		{"None beside an X", api.Point{X: api.U384{1}, None: true}},
		{"None beside a high X", api.Point{X: api.U384{5: 1 << 63}, None: true}},
		{"None beside a Y", api.Point{Y: api.U384{1}, None: true}},
		{"None beside a high Y", api.Point{Y: api.U384{5: 1 << 63}, None: true}},
		{"None beside P and P", api.Point{X: nearP(0), Y: nearP(0), None: true}},
		{"P and P", api.Point{X: nearP(0), Y: nearP(0)}},
		{"X is P, its rest is a point's", api.Point{X: nearP(0), Y: atZero.Y}},
		{"X is P + 2, its rest is a point's", api.Point{X: nearP(2), Y: atTwo.Y}},
		{"X is 2^384 - 1", api.Point{X: most, Y: g.Y}},
		{"Y is P", api.Point{X: g.X, Y: nearP(0)}},
		{"Y is 2^384 - 1", api.Point{X: g.X, Y: most}},
		{"both are 2^384 - 1", api.Point{X: most, Y: most}},
		{"X and Y are swapped", api.Point{X: g.Y, Y: g.X}},
		{"a bit of X is turned", turnedX},
		{"a bit of Y is turned", turnedY},
		{"X is 0", api.Point{Y: g.Y}},
		{"Y is 0", api.Point{X: g.X}},
	}
}

// P6.1

func TestExamples(t *testing.T) {
	t.Parallel()
	g := curve.G()
	if m := Base(api.U384{}); m != none {
		t.Errorf("Base(0) = %v", m)
	}
	if m := Base(api.U384{1}); m != g {
		t.Errorf("Base(1) = %v", m)
	}
	if m := mul(t, api.U384{2}, g); m != sum(t, g, g) {
		t.Errorf("Mul(2, G) = %v", m)
	}
	if m := two(t, api.U384{1}, api.U384{1}, neg(t, g)); m != none {
		t.Errorf("Two(1, 1, Neg(G)) = %v", m)
	}
}

// The chapter's own words: infinity for 0, else p added to k - 1 times p.
func TestMulOfSmallNumbersIsTheChapters(t *testing.T) {
	t.Parallel()
	for _, p := range []api.Point{curve.G(), pointAt(2)} {
		want := none
		for k := range uint64(20) {
			if m := mul(t, api.U384{k}, p); m != want {
				t.Errorf("Mul(%d, %v) = %v; want %v", k, p, m, want)
			}
			want = sum(t, want, p)
		}
	}
}

func TestMulIsAnotherPrograms(t *testing.T) {
	for i, p := range points()[:6] {
		t.Run("", func(t *testing.T) {
			t.Parallel()
			for j, k := range numbers() {
				if i >= 2 && j%3 != i%3 { // a third of the numbers at the points beside G and its opposite
					continue
				}
				if m, want := mul(t, k, p), times(bigOf(k), p); m != want {
					t.Errorf("Mul(%x, %v) = %v; want %v", k, p, m, want)
				}
			}
		})
	}
}

// Each bit counts by its place: all of them stand in one of these numbers and miss in another.
func TestMulOfSingleBits(t *testing.T) {
	t.Parallel()
	power := curve.G()
	for i := range 384 {
		if i%64 == 0 || i%64 == 63 || i%37 == 1 {
			var k api.U384
			k[i/64] = 1 << (i % 64)
			if m := Base(k); m != power {
				t.Errorf("Base(2^%d) = %v; want %v", i, m, power)
			}
		}
		power = sum(t, power, power)
	}
}

func TestMulOfInfinity(t *testing.T) {
	t.Parallel()
	for _, k := range numbers() {
		if m := mul(t, k, none); m != none {
			t.Errorf("Mul(%x, infinity) = %v", k, m)
		}
	}
}

func TestMulNearTheOrder(t *testing.T) {
	t.Parallel()
	if order.N() != nearN(0) {
		t.Errorf("N() = %x", order.N())
	}
	for _, p := range []api.Point{curve.G(), pointAt(0)} {
		for _, c := range []struct {
			k    api.U384
			want api.Point
		}{
			{nearN(-1), neg(t, p)}, {nearN(0), none}, {nearN(1), p}, {nearN(2), sum(t, p, p)},
		} {
			if m := mul(t, c.k, p); m != c.want {
				t.Errorf("Mul(%x, %v) = %v; want %v", c.k, p, m, c.want)
			}
		}
	}
}

func TestBaseIsMulOfG(t *testing.T) {
	t.Parallel()
	for _, k := range numbers() {
		m := Base(k)
		if want := times(bigOf(k), curve.G()); m != want {
			t.Errorf("Base(%x) = %v; want %v", k, m, want)
		}
		if !curve.On(m) {
			t.Errorf("Base(%x) = %v is no point", k, m)
		}
	}
}

// pairs are numbers for Two: the edges, and others.
func pairs() [][2]api.U384 {
	a, b := anyNumber("a"), anyNumber("b")
	return [][2]api.U384{
		{{}, {}}, {{}, {1}}, {{1}, {}}, {{}, a}, {a, {}}, {{1}, {1}}, {{1}, {2}}, {{2}, {1}}, {{5}, {3}},
		{a, b}, {b, a}, {a, a}, {most, most}, {most, {}}, {{}, most}, {most, a}, {a, most},
		{nearN(0), nearN(0)}, {nearN(0), a}, {b, nearN(0)}, {nearN(-1), nearN(1)}, {nearN(1), nearN(-1)},
		{{5: 1 << 63}, {1}}, {{1}, {5: 1 << 63}},
	}
}

func TestTwoIsTheSumOfBoth(t *testing.T) {
	for _, q := range points() {
		t.Run("", func(t *testing.T) {
			t.Parallel()
			for i, c := range pairs() {
				if q != curve.G() && q != none && i >= 12 {
					continue
				}
				u, v := c[0], c[1]
				want := sum(t, times(bigOf(u), curve.G()), times(bigOf(v), q))
				if s := two(t, u, v, q); s != want {
					t.Errorf("Two(%x, %x, %v) = %v; want %v", u, v, q, s, want)
				}
			}
		})
	}
}

func TestTwoOfBothByMul(t *testing.T) {
	t.Parallel()
	u, v, q := anyNumber("u"), anyNumber("v"), pointAt(2)
	if s, want := two(t, u, v, q), sum(t, Base(u), mul(t, v, q)); s != want {
		t.Errorf("Two(%x, %x, %v) = %v; want %v", u, v, q, s, want)
	}
}

func TestTwoWithNought(t *testing.T) {
	t.Parallel()
	u, v, q := anyNumber("u"), anyNumber("v"), pointAt(-3)
	for _, c := range []struct {
		what string
		u, v api.U384
		q    api.Point
		want api.Point
	}{
		{"u is 0", api.U384{}, v, q, times(bigOf(v), q)},
		{"v is 0", u, api.U384{}, q, times(bigOf(u), curve.G())},
		{"both are 0", api.U384{}, api.U384{}, q, none},
		{"q is infinity", u, v, none, times(bigOf(u), curve.G())},
		{"u is 0, q is infinity", api.U384{}, v, none, none},
	} {
		if s := two(t, c.u, c.v, c.q); s != c.want {
			t.Errorf("%s: %v; want %v", c.what, s, c.want)
		}
	}
}

// u times G and v times q are opposite, or the same point.
func TestTwoOfOppositesAndOfTheSame(t *testing.T) {
	t.Parallel()
	g, k := curve.G(), order.Rest(anyNumber("k"))
	other, _ := limb.Sub(order.N(), k)
	seven := times(big.NewInt(7), g)
	double := times(new(big.Int).Lsh(bigOf(k), 1), g)
	for _, c := range []struct {
		what string
		u, v api.U384
		q    api.Point
		want api.Point
	}{
		{"opposite numbers", k, other, g, none},
		{"opposite numbers, the other way round", other, k, g, none},
		{"opposite points", k, k, neg(t, g), none},
		{"opposite parts, of another q", api.U384{14}, nearN(-2), seven, none},
		{"opposite parts, above the order", nearN(1), api.U384{1}, neg(t, g), none},
		{"the same numbers of G", k, k, g, double},
		{"the same point, of another q", api.U384{21}, api.U384{3}, seven, times(big.NewInt(42), g)},
		{"the same point, of opposites", k, other, neg(t, g), double},
	} {
		if s := two(t, c.u, c.v, c.q); s != c.want {
			t.Errorf("%s: Two(%x, %x, %v) = %v; want %v", c.what, c.u, c.v, c.q, s, c.want)
		}
	}
}

func TestNoPoints(t *testing.T) {
	t.Parallel()
	some := []api.U384{{}, {1}, {2}, nearN(0), most, anyNumber("k")}
	for _, c := range noPoints() {
		for i, k := range some {
			if m, err := Mul(k, c.p); m != (api.Point{}) || err != api.ErrPoint {
				t.Errorf("%s: Mul(%x, %v) = %v, %v", c.what, k, c.p, m, err)
			}
			if m, l, err := Traced(k, c.p); m != (api.Point{}) || len(l) != 0 || err != api.ErrPoint {
				t.Errorf("%s: Traced(%x, %v) = %v, %d steps, %v", c.what, k, c.p, m, len(l), err)
			}
			for _, u := range []api.U384{{}, {1}, some[(i+1)%len(some)]} {
				if s, err := Two(u, k, c.p); s != (api.Point{}) || err != api.ErrPoint {
					t.Errorf("%s: Two(%x, %x, %v) = %v, %v", c.what, u, k, c.p, s, err)
				}
			}
		}
	}
}

// P6.2

func TestStepsAreThreeABit(t *testing.T) {
	t.Parallel()
	if api.StepDouble != 1 || api.StepAdd != 2 || api.StepPick != 3 {
		t.Fatal("the kinds of steps are others")
	}
	for _, k := range []api.U384{{}, {1}, most, nearN(0), {5: 1 << 63}, anyNumber("k")} {
		for _, p := range []api.Point{curve.G(), none, pointAt(0)} {
			m, steps, err := Traced(k, p)
			if want := times(bigOf(k), p); m != want || err != nil {
				t.Errorf("Traced(%x, %v) = %v, %v; want %v", k, p, m, err, want)
			}
			if len(steps) != 1152 {
				t.Fatalf("Traced(%x, %v): %d steps", k, p, len(steps))
			}
			for i, kind := range steps {
				if kind != 1+i%3 {
					t.Fatalf("Traced(%x, %v): step %d is %d", k, p, i, kind)
				}
			}
		}
	}
}

func TestTracedAnswersAsMul(t *testing.T) {
	t.Parallel()
	for i, k := range numbers() {
		p := points()[i%7]
		m, _, err := Traced(k, p)
		if want := mul(t, k, p); m != want || err != nil {
			t.Errorf("Traced(%x, %v) = %v, %v; want %v", k, p, m, err, want)
		}
	}
}

func TestStepsAreNewMemory(t *testing.T) {
	t.Parallel()
	_, one, _ := Traced(api.U384{5}, curve.G())
	_, other, _ := Traced(api.U384{6}, curve.G())
	was := slices.Clone(other)
	clear(one)
	_ = append(one[:0], one[:cap(one)]...)
	if !slices.Equal(other, was) {
		t.Error("two answers share their steps")
	}
	if _, again, _ := Traced(api.U384{5}, curve.G()); !slices.Equal(again, was) {
		t.Error("steps changed with those of an earlier answer")
	}
}

// P6.3

func TestSumsOfNumbersAreSumsOfPoints(t *testing.T) {
	t.Parallel()
	half, k1, k2 := api.U384{top, top, top, top, top, top >> 1}, anyNumber("k1"), anyNumber("k2")
	k1[5] >>= 1
	k2[5] >>= 1
	for i, c := range [][2]api.U384{
		{{}, {}}, {{}, {9}}, {{1}, {1}}, {{3}, {4}}, {half, half}, {half, k1}, {k1, k2}, {k1, k1}, {k2, {top}},
		{{0, 0, 0, 1}, {top, top, top}}, {nearN(-1), {1}}, {nearN(-2), {3}}, {nearN(-5), {9}}, {nearN(0), {1}}, {{1}, nearN(0)},
	} {
		k, l := c[0], c[1]
		p := points()[i%7]
		kl, carry := limb.Add(k, l)
		if carry != 0 {
			t.Fatalf("%x and %x have no sum of 384 bits", k, l)
		}
		if whole, parts := mul(t, kl, p), sum(t, mul(t, k, p), mul(t, l, p)); whole != parts {
			t.Errorf("%x, %x, %v: %v or %v", k, l, p, whole, parts)
		}
	}
}

func TestMultiplesOfMultiplesGoInAnyOrder(t *testing.T) {
	t.Parallel()
	for i, c := range [][2]api.U384{
		{{}, {5}}, {{2}, {3}}, {{1}, most}, {nearN(-1), {7}}, {nearN(0), anyNumber("k")},
		{anyNumber("k"), anyNumber("l")}, {most, anyNumber("m")}, {most, most},
	} {
		k, l := c[0], c[1]
		p := points()[(i+3)%7]
		one, other := mul(t, k, mul(t, l, p)), mul(t, l, mul(t, k, p))
		want := times(new(big.Int).Mul(bigOf(k), bigOf(l)), p)
		if one != other || one != want {
			t.Errorf("%x, %x, %v: %v or %v; want %v", k, l, p, one, other, want)
		}
	}
}

func TestTheOrderTimesAnyPoint(t *testing.T) {
	t.Parallel()
	for _, p := range points() {
		if m := mul(t, order.N(), p); m != none {
			t.Errorf("Mul(N, %v) = %v", p, m)
		}
	}
}
