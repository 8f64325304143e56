package curve

import (
	"bytes"
	"crypto/elliptic"
	"math/big"
	"testing"

	"escutcheon/api"
	"escutcheon/field"
	"escutcheon/limb"
)

const top = 1<<64 - 1

var (
	infinity = api.Point{None: true}
	most     = api.U384{top, top, top, top, top, top}
)

// The numbers as the chapter tells them.
const (
	textB = "b3312fa7 e23ee7e4 988e056b e3f82d19 181d9c6e fe814112 0314088f 5013875a c656398d 8a2ed19d 2a85c8ed d3ec2aef"
	textX = "aa87ca22 be8b0537 8eb1c71e f320ad74 6e1d3b62 8ba79b98 59f741e0 82542a38 5502f25d bf55296c 3a545e38 72760ab7"
	textY = "3617de4a 96262c6f 5d9e98bf 9292dc29 f8f41dbd 289a147c e9da3113 b5f0b8c0 0a60b1ce 1d7e819d 7a431d7c 90ea0e5f"
)

func bigText(text string) *big.Int {
	n, ok := new(big.Int).SetString(string(bytes.ReplaceAll([]byte(text), []byte(" "), nil)), 16)
	if !ok {
		panic("no number: " + text)
	}
	return n
}

// bigP is 2^384 - 2^128 - 2^96 + 2^32 - 1.
func bigP() *big.Int {
	p := big.NewInt(-1)
	for _, c := range []struct {
		sign int64
		bit  uint
	}{{1, 384}, {-1, 128}, {-1, 96}, {1, 32}} {
		p.Add(p, new(big.Int).Lsh(big.NewInt(c.sign), c.bit))
	}
	return p
}

func bigOf(a api.U384) *big.Int { return new(big.Int).SetBytes(limb.Bytes(a)) }

func numberOf(n *big.Int) api.U384 {
	a, err := limb.From(n.FillBytes(make([]byte, 48)))
	if err != nil {
		panic(err)
	}
	return a
}

func restOf(n *big.Int) *big.Int { return new(big.Int).Mod(n, bigP()) }

// nearP is P and d.
func nearP(d int64) api.U384 { return numberOf(new(big.Int).Add(bigP(), big.NewInt(d))) }

// underTop is 2^384 less d.
func underTop(d int64) api.U384 {
	return numberOf(new(big.Int).Sub(new(big.Int).Lsh(big.NewInt(1), 384), big.NewInt(d)))
}

// overP is a number with P on top of it: its rest is the same.
func overP(a api.U384) api.U384 { return numberOf(new(big.Int).Add(bigOf(a), bigP())) }

// squareAt is what y^2 has to be at some x, by math/big.
func squareAt(x *big.Int) *big.Int {
	s := new(big.Int).Exp(x, big.NewInt(3), nil)
	s.Sub(s, new(big.Int).Mul(big.NewInt(3), x))
	return restOf(s.Add(s, bigText(textB)))
}

// pointsAt are both points with the rest of an x, or none.
func pointsAt(x *big.Int) []api.Point {
	x = restOf(x)
	y := new(big.Int).ModSqrt(squareAt(x), bigP())
	if y == nil {
		return nil
	}
	return []api.Point{
		{X: numberOf(x), Y: numberOf(y)},
		{X: numberOf(x), Y: numberOf(new(big.Int).Sub(bigP(), y))},
	}
}

// lowPoints have a Y so low that P on top of it is still a number of 384 bits.
func lowPoints() []api.Point {
	return []api.Point{
		{X: numberOf(bigText("2261b2bf605c22f2f3aef6338719b2c486388ad5240719a5257315969ef01ba27f0a104c89704773a81fdabee6ab5c78")), Y: api.U384{1}},
		{X: numberOf(bigText("742b1363c46dbf7b0856f75f64c464dcbe246ff7966c1498faa711c4cf9c00f1e800d93cc04a3455923800cf11c812f4")), Y: api.U384{2}},
		{
			X: numberOf(bigText("cd0ded54f2760d9d5fd92a1fe601670c426f07277fad2ec13e24c6ba409f5fee0a91f112c8e20d28e19fb7d80d89a356")),
			Y: numberOf(restOf(bigOf(underTop(5)))),
		},
	}
}

// timesG is a multiple of the base point by another program.
func timesG(k int64) api.Point {
	n := new(big.Int).Mod(big.NewInt(k), elliptic.P384().Params().N)
	if n.Sign() == 0 {
		return infinity
	}
	x, y := elliptic.P384().ScalarBaseMult(n.Bytes())
	return api.Point{X: numberOf(x), Y: numberOf(y)}
}

// points are multiples of G, points of other x with both their y (0 among them), and of low y; none
// is at infinity.
func points() []api.Point {
	var all []api.Point
	for _, k := range []int64{1, 2, 3, 4, 7, 1 << 40, -1, -2, -3} {
		all = append(all, timesG(k))
	}
	for _, x := range []int64{0, 2, 3, -1, -3} {
		all = append(all, pointsAt(big.NewInt(x))...)
	}
	all = append(all, pointsAt(bigOf(underTop(4)))...)
	return append(all, lowPoints()...)
}

// withInfinity are the points, and the one at infinity.
func withInfinity() []api.Point { return append(points(), infinity) }

// sumOf is the chapter's sum, by math/big.
func sumOf(p, q api.Point) api.Point {
	if p.None {
		return q
	}
	if q.None {
		return p
	}
	x1, y1, x2, y2 := bigOf(p.X), bigOf(p.Y), bigOf(q.X), bigOf(q.Y)
	if x1.Cmp(x2) == 0 && restOf(new(big.Int).Add(y1, y2)).Sign() == 0 {
		return infinity
	}
	rise, run := new(big.Int).Sub(y2, y1), new(big.Int).Sub(x2, x1)
	if p == q {
		rise.Mul(x1, x1).Sub(rise, big.NewInt(1)).Mul(rise, big.NewInt(3))
		run.Add(y1, y1)
	}
	s := restOf(rise.Mul(rise, new(big.Int).ModInverse(restOf(run), bigP())))
	x3 := new(big.Int).Mul(s, s)
	x3 = restOf(x3.Sub(x3, x1).Sub(x3, x2))
	y3 := new(big.Int).Sub(x1, x3)
	y3 = restOf(y3.Mul(y3, s).Sub(y3, y1))
	return api.Point{X: numberOf(x3), Y: numberOf(y3)}
}

func add(t *testing.T, p, q api.Point) api.Point {
	t.Helper()
	sum, err := Add(p, q)
	if err != nil {
		t.Fatalf("Add(%v, %v): %v", p, q, err)
	}
	return sum
}

func neg(t *testing.T, p api.Point) api.Point {
	t.Helper()
	n, err := Neg(p)
	if err != nil {
		t.Fatalf("Neg(%v): %v", p, err)
	}
	return n
}

type noPoint struct {
	what string
	p    api.Point
}

// noPoints are no points; many would be some if only the rests of their coordinates were asked.
func noPoints() []noPoint {
	g, atZero, low := G(), pointsAt(big.NewInt(0))[0], lowPoints()
	atTwo, high := pointsAt(big.NewInt(2))[1], pointsAt(bigOf(underTop(4)))[0]
	all := []noPoint{
		{"the zero value", api.Point{}},
		{"None beside G", api.Point{X: g.X, Y: g.Y, None: true}},
		{"None beside an X of 1", api.Point{X: api.U384{1}, None: true}},
		{"None beside a Y of 1", api.Point{Y: api.U384{1}, None: true}},
		{"None beside G's X", api.Point{X: g.X, None: true}},
		{"None beside G's Y", api.Point{Y: g.Y, None: true}},
		{"None beside a high X", api.Point{X: api.U384{5: 1 << 63}, None: true}},
		{"None beside a high Y", api.Point{Y: api.U384{5: 1 << 63}, None: true}},
		{"None beside the point at 0", api.Point{X: atZero.X, Y: atZero.Y, None: true}},
		{"None beside an X of P", api.Point{X: nearP(0), None: true}},
		{"None beside a Y of P", api.Point{Y: nearP(0), None: true}},
		{"None beside P and P", api.Point{X: nearP(0), Y: nearP(0), None: true}},
		{"P and P", api.Point{X: nearP(0), Y: nearP(0)}},
		{"X is P, its rest is a point's", api.Point{X: nearP(0), Y: atZero.Y}},
		{"X is P + 2, its rest is a point's", api.Point{X: nearP(2), Y: atTwo.Y}},
		{"X is 2^384 - 4, its rest is a point's", api.Point{X: underTop(4), Y: high.Y}},
		{"X is 2^384 - 1", api.Point{X: most, Y: g.Y}},
		{"X is P", api.Point{X: nearP(0), Y: g.Y}},
		{"X is P + 1", api.Point{X: nearP(1), Y: g.Y}},
		{"Y is P + 1, its rest is a point's", api.Point{X: low[0].X, Y: nearP(1)}},
		{"Y is P + 2, its rest is a point's", api.Point{X: low[1].X, Y: nearP(2)}},
		{"Y is 2^384 - 5, its rest is a point's", api.Point{X: low[2].X, Y: underTop(5)}},
		{"Y is 2^384 - 1", api.Point{X: g.X, Y: most}},
		{"Y is P", api.Point{X: g.X, Y: nearP(0)}},
		{"both are 2^384 - 1", api.Point{X: most, Y: most}},
		{"X and Y are swapped", api.Point{X: g.Y, Y: g.X}},
		{"Y is 0", api.Point{X: g.X}},
		{"X is 0", api.Point{Y: g.Y}},
		{"X is 1, where there is no point", api.Point{X: api.U384{1}, Y: g.Y}},
	}
	for bit := range 384 {
		x, y := g, g
		x.X[bit/64] ^= 1 << (bit % 64)
		y.Y[bit/64] ^= 1 << (bit % 64)
		all = append(all, noPoint{"a bit of G's X is turned", x}, noPoint{"a bit of G's Y is turned", y})
	}
	return all
}

// P5.1

func TestGIsTheBasePoint(t *testing.T) {
	want := api.Point{X: numberOf(bigText(textX)), Y: numberOf(bigText(textY))}
	if G() != want {
		t.Errorf("G() = %v", G())
	}
	if want != timesG(1) {
		t.Errorf("%v is not what another program takes for G", want)
	}
}

func TestGIsNewMemory(t *testing.T) {
	g := G()
	g.X[0]++
	clear(g.Y[:])
	g.None = true
	if G() != timesG(1) {
		t.Errorf("G() = %v", G())
	}
}

func TestConstantIsThatOfTheChapter(t *testing.T) {
	if constant != numberOf(bigText(textB)) {
		t.Errorf("%x", constant)
	}
	if field.P() != numberOf(bigP()) {
		t.Errorf("%x", field.P())
	}
}

func TestOnTellsPoints(t *testing.T) {
	for _, p := range withInfinity() {
		if !On(p) {
			t.Errorf("On(%v) = false", p)
		}
	}
}

func TestOnTellsWhatIsNoPoint(t *testing.T) {
	for _, c := range noPoints() {
		if On(c.p) {
			t.Errorf("%s: On(%v) = true", c.what, c.p)
		}
	}
}

// At each x both roots of the cubic are on the curve, or none is.
func TestOnHoldsTheEquation(t *testing.T) {
	found, missed := 0, 0
	for x := range int64(60) {
		at := pointsAt(big.NewInt(x))
		for _, p := range at {
			found++
			if !On(p) {
				t.Errorf("On(%v) = false", p)
			}
			p.Y[0] ^= 1
			if On(p) {
				t.Errorf("On(%v) = true", p)
			}
		}
		if at != nil {
			continue
		}
		missed++
		// Here the root is one of P less the square: the equation holds but for the sign.
		y := new(big.Int).ModSqrt(restOf(new(big.Int).Neg(squareAt(big.NewInt(x)))), bigP())
		if p := (api.Point{X: api.U384{uint64(x)}, Y: numberOf(y)}); On(p) {
			t.Errorf("On(%v) = true", p)
		}
	}
	if found < 20 || missed < 20 {
		t.Errorf("%d points, %d x without one", found, missed)
	}
}

// P5.2

func TestExamples(t *testing.T) {
	g := G()
	if s := add(t, g, neg(t, g)); s != infinity {
		t.Errorf("Add(G, Neg(G)) = %v", s)
	}
	if s := add(t, infinity, g); s != g {
		t.Errorf("Add(infinity, G) = %v", s)
	}
	if On(api.Point{}) {
		t.Error("On(the zero api.Point) = true")
	}
	if b, err := Encode(infinity); len(b) != 0 || err != api.ErrPoint {
		t.Errorf("Encode(infinity) = %x, %v", b, err)
	}
}

func TestNeg(t *testing.T) {
	if n := neg(t, infinity); n != infinity {
		t.Errorf("Neg(infinity) = %v", n)
	}
	for _, p := range points() {
		want := api.Point{X: p.X, Y: numberOf(new(big.Int).Sub(bigP(), bigOf(p.Y)))}
		if n := neg(t, p); n != want {
			t.Errorf("Neg(%v) = %v", p, n)
		}
		if n := neg(t, neg(t, p)); n != p {
			t.Errorf("Neg(Neg(%v)) = %v", p, n)
		}
	}
}

func TestAddIsTheChaptersSum(t *testing.T) {
	all := withInfinity()
	for _, p := range all {
		for _, q := range all {
			if s, want := add(t, p, q), sumOf(p, q); s != want {
				t.Errorf("Add(%v, %v) = %v; want %v", p, q, s, want)
			}
		}
	}
}

func TestAddOfInfinity(t *testing.T) {
	if s := add(t, infinity, infinity); s != infinity {
		t.Errorf("Add(infinity, infinity) = %v", s)
	}
	for _, p := range points() {
		if s := add(t, infinity, p); s != p {
			t.Errorf("Add(infinity, %v) = %v", p, s)
		}
		if s := add(t, p, infinity); s != p {
			t.Errorf("Add(%v, infinity) = %v", p, s)
		}
	}
}

func TestAddOfOpposites(t *testing.T) {
	for _, p := range withInfinity() {
		if s := add(t, p, neg(t, p)); s != infinity {
			t.Errorf("Add(%v, its opposite) = %v", p, s)
		}
		if s := add(t, neg(t, p), p); s != infinity {
			t.Errorf("Add(its opposite, %v) = %v", p, s)
		}
	}
}

func TestAddMakesMultiples(t *testing.T) {
	sum := infinity
	for k := range int64(40) {
		if sum != timesG(k) {
			t.Fatalf("%d times G = %v", k, sum)
		}
		sum = add(t, sum, G())
	}
	power := G()
	for k := range 63 {
		if power != timesG(1<<k) {
			t.Fatalf("2^%d times G = %v", k, power)
		}
		power = add(t, power, power)
	}
}

func TestNegOfNoPoint(t *testing.T) {
	for _, c := range noPoints() {
		if n, err := Neg(c.p); n != (api.Point{}) || err != api.ErrPoint {
			t.Errorf("%s: Neg(%v) = %v, %v", c.what, c.p, n, err)
		}
	}
}

func TestAddOfNoPoint(t *testing.T) {
	g := G()
	for _, c := range noPoints() {
		for _, pair := range [][2]api.Point{
			{c.p, g}, {g, c.p}, {c.p, c.p}, {c.p, infinity}, {infinity, c.p}, {c.p, {}}, {{}, c.p},
		} {
			if s, err := Add(pair[0], pair[1]); s != (api.Point{}) || err != api.ErrPoint {
				t.Errorf("%s: Add(%v, %v) = %v, %v", c.what, pair[0], pair[1], s, err)
			}
		}
	}
}

// P5.3

func TestEncode(t *testing.T) {
	for _, p := range points() {
		want := append([]byte{4}, bigOf(p.X).FillBytes(make([]byte, 48))...)
		want = append(want, bigOf(p.Y).FillBytes(make([]byte, 48))...)
		if b, err := Encode(p); !bytes.Equal(b, want) || len(b) != 97 || err != nil {
			t.Errorf("Encode(%v) = %x, %v", p, b, err)
		}
	}
}

func TestEncodeOfG(t *testing.T) {
	want := append([]byte{4}, bigText(textX).Bytes()...)
	want = append(want, bigText(textY).Bytes()...)
	if b, err := Encode(G()); !bytes.Equal(b, want) || err != nil {
		t.Errorf("Encode(G) = %x, %v", b, err)
	}
}

func TestEncodeOfNoPoint(t *testing.T) {
	for _, c := range append(noPoints(), noPoint{"infinity", infinity}) {
		if b, err := Encode(c.p); len(b) != 0 || err != api.ErrPoint {
			t.Errorf("%s: Encode(%v) = %x, %v", c.what, c.p, b, err)
		}
	}
}

func TestEncodeIsNewMemory(t *testing.T) {
	one, _ := Encode(G())
	two, _ := Encode(G())
	clear(one)
	_ = append(one[:1], two[1:]...)
	if three, err := Encode(G()); !bytes.Equal(two, three) || err != nil || G() != timesG(1) {
		t.Errorf("%x, %x, %v", two, three, err)
	}
}

// told is what Encode has to tell of coordinates, but nothing is asked of them.
func told(first byte, x, y api.U384) []byte {
	b := append([]byte{first}, limb.Bytes(x)...)
	return append(b, limb.Bytes(y)...)
}

func TestDecode(t *testing.T) {
	for _, p := range points() {
		b := told(4, p.X, p.Y)
		if q, err := Decode(b); q != p || err != nil {
			t.Errorf("Decode(%x) = %v, %v", b, q, err)
		}
	}
}

func TestDecodeOfWrongBytes(t *testing.T) {
	g, zero := G(), api.U384{}
	whole := told(4, g.X, g.Y)
	atZero, low := pointsAt(big.NewInt(0))[0], lowPoints()
	for _, c := range []struct {
		what string
		b    []byte
		want error
	}{
		{"nil", nil, api.ErrShort},
		{"no bytes", []byte{}, api.ErrShort},
		{"the first byte alone", whole[:1], api.ErrShort},
		{"one coordinate", whole[:49], api.ErrShort},
		{"96 bytes", whole[:96], api.ErrShort},
		{"the coordinates alone", whole[1:], api.ErrShort},
		{"98 bytes", append(told(4, g.X, g.Y), 0), api.ErrMore},
		{"twice", append(told(4, g.X, g.Y), whole...), api.ErrMore},
		{"97 noughts", make([]byte, 97), api.ErrForm},
		{"X's range", told(4, nearP(0), g.Y), api.ErrRange},
		{"X's range, its rest is a point's", told(4, nearP(0), atZero.Y), api.ErrRange},
		{"X's range, 2^384 - 1", told(4, most, g.Y), api.ErrRange},
		{"Y's range", told(4, g.X, nearP(0)), api.ErrRange},
		{"Y's range, its rest is a point's", told(4, low[0].X, overP(low[0].Y)), api.ErrRange},
		{"Y's range, 2^384 - 1", told(4, g.X, most), api.ErrRange},
		{"both ranges", told(4, most, nearP(0)), api.ErrRange},
		{"below P, but no point", told(4, nearP(-1), nearP(-1)), api.ErrPoint},
		{"0 and 0", told(4, zero, zero), api.ErrPoint},
		{"swapped", told(4, g.Y, g.X), api.ErrPoint},
		{"a bit of X", told(4, api.U384{g.X[0] ^ 1, g.X[1], g.X[2], g.X[3], g.X[4], g.X[5]}, g.Y), api.ErrPoint},
		{"a bit of Y", told(4, g.X, api.U384{g.Y[0] ^ 1, g.Y[1], g.Y[2], g.Y[3], g.Y[4], g.Y[5]}), api.ErrPoint},
		// Several errors at once: the list's first one.
		{"short, another first byte", told(2, g.X, g.Y)[:96], api.ErrShort},
		{"more, another first byte", append(told(3, g.X, g.Y), 4), api.ErrMore},
		{"more, the range", append(told(4, most, g.Y), 4), api.ErrMore},
		{"another first byte, the range", told(5, most, most), api.ErrForm},
		{"another first byte, no point", told(5, g.Y, g.X), api.ErrForm},
	} {
		if p, err := Decode(c.b); p != (api.Point{}) || err != c.want {
			t.Errorf("%s: Decode(%x) = %v, %v; want %v", c.what, c.b, p, err, c.want)
		}
	}
}

func TestDecodeOfEveryLength(t *testing.T) {
	long := append(told(4, G().X, G().Y), make([]byte, 120)...)
	for n := range len(long) {
		want := error(nil)
		if n < 97 {
			want = api.ErrShort
		} else if n > 97 {
			want = api.ErrMore
		}
		if p, err := Decode(long[:n]); err != want || (err != nil && p != (api.Point{})) {
			t.Errorf("%d bytes: %v, %v", n, p, err)
		}
	}
}

func TestDecodeOfEveryFirstByte(t *testing.T) {
	for first := range 256 {
		p, err := Decode(told(byte(first), G().X, G().Y))
		if first == 4 {
			if p != G() || err != nil {
				t.Errorf("%d: %v, %v", first, p, err)
			}
		} else if p != (api.Point{}) || err != api.ErrForm {
			t.Errorf("%d: %v, %v", first, p, err)
		}
	}
}

func TestDecodeOfNoPoint(t *testing.T) {
	for _, c := range noPoints() {
		if c.p.None {
			continue
		}
		want := api.ErrPoint
		if bigOf(c.p.X).Cmp(bigP()) >= 0 || bigOf(c.p.Y).Cmp(bigP()) >= 0 {
			want = api.ErrRange
		}
		if p, err := Decode(told(4, c.p.X, c.p.Y)); p != (api.Point{}) || err != want {
			t.Errorf("%s: %v, %v; want %v", c.what, p, err, want)
		}
	}
}

func TestDecodeLeavesItsBytes(t *testing.T) {
	g := G()
	for _, b := range [][]byte{told(4, g.X, g.Y), told(4, g.Y, g.X), told(4, most, g.Y), told(9, g.X, g.Y), {4}} {
		was := bytes.Clone(b)
		p, err := Decode(b)
		if !bytes.Equal(b, was) {
			t.Errorf("%x was changed to %x", was, b)
		}
		clear(b)
		if err == nil && p != g {
			t.Errorf("a point changed with its bytes: %v", p)
		}
	}
}

// P5.4

func TestSumsArePoints(t *testing.T) {
	all := withInfinity()
	for _, p := range all {
		for _, q := range all {
			s := add(t, p, q)
			if !On(s) {
				t.Errorf("Add(%v, %v) = %v", p, q, s)
			}
			if back := add(t, q, p); back != s {
				t.Errorf("Add(%v, %v) = %v, but the other way round %v", p, q, s, back)
			}
		}
	}
}

func TestSumsGoInAnyOrder(t *testing.T) {
	g, zero := G(), pointsAt(big.NewInt(0))
	few := []api.Point{infinity, g, neg(t, g), timesG(2), timesG(-2), timesG(3), zero[0], zero[1], lowPoints()[0]}
	for _, p := range few {
		for _, q := range few {
			for _, r := range few {
				left, right := add(t, add(t, p, q), r), add(t, p, add(t, q, r))
				if left != right {
					t.Errorf("%v, %v, %v: %v or %v", p, q, r, left, right)
				}
			}
		}
	}
}

func TestNegGoesThroughSums(t *testing.T) {
	all := withInfinity()
	for i, p := range all {
		q := all[(i+5)%len(all)]
		if a, b := neg(t, add(t, p, q)), add(t, neg(t, p), neg(t, q)); a != b {
			t.Errorf("%v, %v: %v or %v", p, q, a, b)
		}
		if back := add(t, add(t, p, q), neg(t, q)); back != p {
			t.Errorf("%v came back as %v", p, back)
		}
	}
}

func TestWhatWasToldIsRead(t *testing.T) {
	for _, p := range points() {
		for _, q := range []api.Point{p, neg(t, p), add(t, p, p)} {
			b, err := Encode(q)
			if err != nil {
				t.Fatal(err)
			}
			back, err := Decode(b)
			if back != q || err != nil {
				t.Errorf("%v was read as %v, %v", q, back, err)
			}
			again, err := Encode(back)
			if !bytes.Equal(again, b) || err != nil {
				t.Errorf("%x was told as %x, %v", b, again, err)
			}
		}
	}
}
