package modp

import (
	"math/big"
	"math/rand"
	"testing"

	"escutcheon/api"
	"escutcheon/limb"
)

const (
	top  = 1<<64 - 1
	half = 1 << 63
)

var (
	most      = api.U384{top, top, top, top, top, top}
	leastMod  = api.U384{1, 0, 0, 0, 0, half}
	primeP384 = api.U384{0x00000000ffffffff, 0xffffffff00000000, 0xfffffffffffffffe, top, top, top}
	orderP384 = api.U384{0xecec196accc52973, 0x581a0db248b0a77a, 0xc7634d81f4372ddf, top, top, top}
)

func bigOf(limbs []uint64) *big.Int {
	n := new(big.Int)
	for i := len(limbs) - 1; i >= 0; i-- {
		n.Lsh(n, 64)
		n.Or(n, new(big.Int).SetUint64(limbs[i]))
	}
	return n
}

func numberOf(n *big.Int) api.U384 {
	a, err := limb.From(n.FillBytes(make([]byte, 48)))
	if err != nil {
		panic(err)
	}
	return a
}

// powerOf is 2^n.
func powerOf(n uint) *big.Int { return new(big.Int).Lsh(big.NewInt(1), n) }

// mixed is a number many limbs of which are 0 or all ones, so that carries run far.
func mixed(r *rand.Rand) api.U384 {
	var a api.U384
	for i := range a {
		switch r.Intn(4) {
		case 0:
			a[i] = 0
		case 1:
			a[i] = top
		default:
			a[i] = r.Uint64()
		}
	}
	return a
}

// moduli are the named ones, and others.
func moduli() []api.U384 {
	all := []api.U384{
		leastMod,
		{3, 0, 0, 0, 0, half},
		{top, 0, 0, 0, 0, half},
		{1, 1, 0, 0, 0, half},
		{top, top, top, top, top, half},
		{1, 0, 0, 0, 0, half + 1},
		{1, 0, 0, 0, 0, top},
		{top - 2, top, top, top, top, top},
		primeP384,
		orderP384,
		most,
	}
	r := rand.New(rand.NewSource(2))
	for range 8 {
		m := mixed(r)
		m[0] |= 1
		m[5] |= half
		all = append(all, m)
	}
	return all
}

func newMod(t *testing.T, m api.U384) api.Mod {
	t.Helper()
	mod, err := New(m)
	if err != nil {
		t.Fatalf("New(%x): %v", m, err)
	}
	return mod
}

// edges are the numbers that the document names for a modulus: 0, 1, M - 1, M, M + 1 and 2^384 - 1; and some near them.
func edges(m api.U384) []api.U384 {
	below, _ := limb.Sub(m, api.U384{1})
	above, carry := limb.Add(m, api.U384{1})
	all := []api.U384{
		{}, {1}, {2}, {3}, {top}, {0, 1},
		{5: half}, {top, top, top, top, top, half - 1},
		below, m,
		{top - 1, top, top, top, top, top}, most,
	}
	if carry == 0 {
		all = append(all, above)
	}
	return all
}

// numbers are the edges and others.
func numbers(m api.U384) []api.U384 {
	all := edges(m)
	r := rand.New(rand.NewSource(384))
	for range 12 {
		all = append(all, mixed(r))
	}
	return all
}

// eachPair calls f with every modulus, and every two of its numbers.
func eachPair(t *testing.T, f func(a, b api.U384, m api.Mod)) {
	t.Helper()
	for _, m := range moduli() {
		mod := newMod(t, m)
		all := numbers(m)
		for _, a := range all {
			for _, b := range all {
				f(a, b, mod)
			}
		}
	}
}

// holds tells whether a is the rest of n.
func holds(a api.U384, n *big.Int, m api.Mod) bool {
	return bigOf(a[:]).Cmp(new(big.Int).Mod(n, bigOf(m.M[:]))) == 0
}

// P2.1

func TestNewTellsTheModulus(t *testing.T) {
	for _, m := range moduli() {
		got := newMod(t, m)
		if got.M != m {
			t.Errorf("New(%x).M = %x", m, got.M)
		}
		if got.Inv*m[0] != top {
			t.Errorf("New(%x).Inv = %x, and times M it is %x", m, got.Inv, got.Inv*m[0])
		}
		if !holds(got.Two, powerOf(768), got) {
			t.Errorf("New(%x).Two = %x", m, got.Two)
		}
	}
}

func TestNewOfEveryLowLimb(t *testing.T) {
	r := rand.New(rand.NewSource(21))
	for i := range 4096 {
		m := api.U384{uint64(2*i + 1), 0, 0, 0, 0, half}
		if i%2 == 1 {
			m[0] = r.Uint64() | 1
		}
		if got := newMod(t, m); got.Inv*m[0] != top {
			t.Fatalf("New(%x).Inv = %x", m, got.Inv)
		}
	}
}

func TestNewWrong(t *testing.T) {
	wrong := []api.U384{
		{},
		{1},
		{2},
		{3},
		{top},
		{1, top, top, top, top},
		{top, top, top, top, top, half - 1}, // 2^383 - 1
		{top, top, top, top, top, 1},
		{1, 0, 0, 0, 0, half >> 1},
		{5: half}, // 2^383
		{2, 0, 0, 0, 0, half},
		{0, 1, 0, 0, 0, half},
		{1 << 63, 0, 0, 0, 0, half},
		{0, top, top, top, top, top},
		{top - 1, top, top, top, top, top}, // 2^384 - 2
		{top - 1, top, top, top, top, half - 1},
	}
	r := rand.New(rand.NewSource(22))
	for range 50 {
		even, small := mixed(r), mixed(r)
		even[0] &^= 1
		small[5] &^= half
		wrong = append(wrong, even, small)
	}
	for _, m := range wrong {
		if got, err := New(m); err != error(api.ErrArg) || got != (api.Mod{}) {
			t.Errorf("New(%x) = %x, %v", m, got, err)
		}
	}
}

func TestNewAtItsEdges(t *testing.T) {
	for _, m := range []api.U384{leastMod, most} {
		if got, err := New(m); err != nil || got.M != m {
			t.Errorf("New(%x) = %x, %v", m, got, err)
		}
	}
}

func TestOtherModuliDoNotPanic(t *testing.T) {
	good := newMod(t, primeP384)
	odd := []api.Mod{
		{},
		{M: most},
		{M: most, Inv: 2, Two: most},
		{M: api.U384{3}, Inv: top, Two: api.U384{1}},
		{M: api.U384{2}, Inv: top, Two: most},
		{M: api.U384{5: half}, Inv: 1, Two: api.U384{1}},
		{Inv: top, Two: most},
		{M: good.M, Inv: good.Inv + 1, Two: good.Two},
		{M: good.M, Inv: good.Inv, Two: most},
		{M: api.U384{1}, Inv: good.Inv, Two: good.Two},
	}
	r := rand.New(rand.NewSource(23))
	for range 20 {
		odd = append(odd, api.Mod{M: mixed(r), Inv: r.Uint64(), Two: mixed(r)})
	}
	for _, m := range odd {
		all := []api.U384{{}, {1}, m.M, m.Two, most}
		for _, a := range all {
			for _, b := range all {
				Add(a, b, m)
				Sub(a, b, m)
				Mul(a, b, m)
				Exp(a, b, m)
				Reduce(limb.Mul(a, b), m)
			}
		}
		var full api.U768
		for i := range full {
			full[i] = top
		}
		Reduce(full, m)
	}
}

// P2.2

// wide are the numbers to reduce: the edges, products, and others.
func wide(m api.U384) []api.U768 {
	var full, belowR, isR, aboveR api.U768
	for i := range full {
		full[i] = top
	}
	copy(belowR[:], full[:6])
	isR[6] = 1
	aboveR[6], aboveR[0] = 1, 1
	almost := full
	almost[0]--
	upper := full
	clear(upper[:6])
	lower := full
	clear(lower[6:])
	all := []api.U768{{}, {1}, {2}, {top}, {11: half}, {11: top}, belowR, isR, aboveR, full, almost, upper, lower}
	for _, a := range edges(m) {
		all = append(all, limb.Mul(a, a), limb.Mul(a, m), limb.Mul(a, most), limb.Mul(a, api.U384{1}))
		var shifted api.U768
		copy(shifted[6:], a[:])
		all = append(all, shifted)
		copy(shifted[:6], most[:])
		all = append(all, shifted)
	}
	r := rand.New(rand.NewSource(768))
	for range 60 {
		low, high := mixed(r), mixed(r)
		var t api.U768
		copy(t[:6], low[:])
		copy(t[6:], high[:])
		all = append(all, t)
	}
	return all
}

func TestReduceLeavesTheRest(t *testing.T) {
	for _, m := range moduli() {
		mod := newMod(t, m)
		for _, n := range wide(m) {
			got := Reduce(n, mod)
			if limb.Less(got, m) != 1 {
				t.Fatalf("Reduce(%x) by %x = %x, which isn't below it", n, m, got)
			}
			timesR := new(big.Int).Mul(bigOf(got[:]), powerOf(384))
			timesR.Sub(timesR, bigOf(n[:]))
			if !holds(api.U384{}, timesR, mod) {
				t.Fatalf("Reduce(%x) by %x = %x", n, m, got)
			}
		}
	}
}

func TestReduceExamples(t *testing.T) {
	var full api.U768
	for i := range full {
		full[i] = top
	}
	for _, m := range moduli() {
		mod := newMod(t, m)
		below, _ := limb.Sub(m, api.U384{1})
		product := limb.Mul(below, api.U384{5: half})
		for _, c := range []struct {
			t    api.U768
			want api.U384
		}{
			{api.U768{}, api.U384{}},
			{api.U768{6: 1}, api.U384{1}},
			{api.U768{6: 77}, api.U384{77}},
			{api.U768{6: m[0], 7: m[1], 8: m[2], 9: m[3], 10: m[4], 11: m[5]}, api.U384{}},
			{api.U768{6: below[0], 7: below[1], 8: below[2], 9: below[3], 10: below[4], 11: below[5]}, below},
			{limb.Mul(m, m), api.U384{}},
			{limb.Mul(m, most), api.U384{}},
		} {
			if got := Reduce(c.t, mod); got != c.want {
				t.Errorf("Reduce(%x) by %x = %x; want %x", c.t, m, got, c.want)
			}
		}
		// A half of R times a number, and both of them: what was reduced twice over is the number.
		if twice := Add(Reduce(product, mod), Reduce(product, mod), mod); twice != below {
			t.Errorf("by %x: %x", m, twice)
		}
	}
	// By 2^384 - 1 R leaves 1, so that a number is the sum of its two halves.
	if got := Reduce(full, newMod(t, most)); got != (api.U384{}) {
		t.Errorf("%x", got)
	}
	if got := Reduce(api.U768{0: 5, 6: 9}, newMod(t, most)); got != (api.U384{14}) {
		t.Errorf("%x", got)
	}
}

// P2.3

func TestExamples(t *testing.T) {
	m := newMod(t, most)
	below := api.U384{top - 1, top, top, top, top, top}
	for _, c := range []struct {
		what      string
		got, want api.U384
	}{
		{"Mul(2^383, 2)", Mul(api.U384{5: half}, api.U384{2}, m), api.U384{1}},
		{"Mul(2^383, 6)", Mul(api.U384{5: half}, api.U384{6}, m), api.U384{3}},
		{"Add(M, 0)", Add(most, api.U384{}, m), api.U384{}},
		{"Add(M, M)", Add(most, most, m), api.U384{}},
		{"Sub(0, 1)", Sub(api.U384{}, api.U384{1}, m), below},
		{"Sub(0, M)", Sub(api.U384{}, most, m), api.U384{}},
		{"Sub(M, 1)", Sub(most, api.U384{1}, m), below},
		{"Exp(0, 0)", Exp(api.U384{}, api.U384{}, m), api.U384{1}},
		{"Exp(M, 0)", Exp(most, api.U384{}, m), api.U384{1}},
		{"Exp(M, 1)", Exp(most, api.U384{1}, m), api.U384{}},
		{"Exp(0, M)", Exp(api.U384{}, most, m), api.U384{}},
		{"Exp(2, 384)", Exp(api.U384{2}, api.U384{384}, m), api.U384{1}},
		{"Exp(M - 1, 2)", Exp(below, api.U384{2}, m), api.U384{1}},
		{"Exp(M - 1, M)", Exp(below, most, m), below},
	} {
		if c.got != c.want {
			t.Errorf("%s = %x; want %x", c.what, c.got, c.want)
		}
	}
}

func TestExamplesOfTheLeastModulus(t *testing.T) {
	m := newMod(t, leastMod)
	// 2^384 - 1 less M is 2^383 - 2, and twice that is M less 5 and 2^383.
	for _, c := range []struct {
		what      string
		got, want api.U384
	}{
		{"Add(2^384 - 1, 0)", Add(most, api.U384{}, m), api.U384{top - 1, top, top, top, top, half - 1}},
		{"Add(2^384 - 1, 2^384 - 1)", Add(most, most, m), api.U384{top - 4, top, top, top, top, half - 1}},
		{"Add(2^383, 1)", Add(api.U384{5: half}, api.U384{1}, m), api.U384{}},
		{"Sub(0, 2^384 - 1)", Sub(api.U384{}, most, m), api.U384{3}},
		{"Mul(2^383, 2^383)", Mul(api.U384{5: half}, api.U384{5: half}, m), api.U384{1}},
		{"Mul(2^384 - 1, 2^384 - 1)", Mul(most, most, m), api.U384{9}},
		{"Exp(2^384 - 1, 3)", Exp(most, api.U384{3}, m), Sub(api.U384{}, api.U384{27}, m)},
		{"Exp(2, 383)", Exp(api.U384{2}, api.U384{383}, m), api.U384{5: half}},
	} {
		if c.got != c.want {
			t.Errorf("%s = %x; want %x", c.what, c.got, c.want)
		}
	}
}

func TestAddIsTheRestOfTheSum(t *testing.T) {
	eachPair(t, func(a, b api.U384, m api.Mod) {
		if got := Add(a, b, m); !holds(got, new(big.Int).Add(bigOf(a[:]), bigOf(b[:])), m) {
			t.Fatalf("Add(%x, %x) by %x = %x", a, b, m.M, got)
		}
	})
}

func TestSubIsTheRestOfTheDifference(t *testing.T) {
	eachPair(t, func(a, b api.U384, m api.Mod) {
		if got := Sub(a, b, m); !holds(got, new(big.Int).Sub(bigOf(a[:]), bigOf(b[:])), m) {
			t.Fatalf("Sub(%x, %x) by %x = %x", a, b, m.M, got)
		}
	})
}

func TestMulIsTheRestOfTheProduct(t *testing.T) {
	eachPair(t, func(a, b api.U384, m api.Mod) {
		if got := Mul(a, b, m); !holds(got, new(big.Int).Mul(bigOf(a[:]), bigOf(b[:])), m) {
			t.Fatalf("Mul(%x, %x) by %x = %x", a, b, m.M, got)
		}
	})
}

func TestExpIsTheRestOfThePower(t *testing.T) {
	for _, m := range moduli() {
		mod := newMod(t, m)
		all := edges(m)
		r := rand.New(rand.NewSource(24))
		all = append(all, mixed(r), mixed(r))
		for _, a := range all {
			for _, e := range all {
				want := new(big.Int).Exp(bigOf(a[:]), bigOf(e[:]), bigOf(m[:]))
				if got := Exp(a, e, mod); got != numberOf(want) {
					t.Fatalf("Exp(%x, %x) by %x = %x", a, e, m, got)
				}
			}
		}
	}
}

func TestExpToNoughtIsOne(t *testing.T) {
	for _, m := range moduli() {
		for _, a := range numbers(m) {
			if got := Exp(a, api.U384{}, newMod(t, m)); got != (api.U384{1}) {
				t.Fatalf("Exp(%x, 0) by %x = %x", a, m, got)
			}
		}
	}
}

func TestExpReadsEveryBit(t *testing.T) {
	m := newMod(t, primeP384)
	a := api.U384{7, 6, 5, 4, 3, 2}
	for i := range 384 {
		var e api.U384
		e[i/64] = 1 << (i % 64)
		want := new(big.Int).Exp(bigOf(a[:]), powerOf(uint(i)), bigOf(m.M[:]))
		if got := Exp(a, e, m); got != numberOf(want) {
			t.Fatalf("Exp to the 2^%d: %x", i, got)
		}
	}
}

// P2.4

func TestProductsWithSums(t *testing.T) {
	r := rand.New(rand.NewSource(25))
	eachPair(t, func(a, b api.U384, m api.Mod) {
		for _, c := range []api.U384{{}, m.M, most, mixed(r)} {
			if Mul(a, Add(b, c, m), m) != Add(Mul(a, b, m), Mul(a, c, m), m) {
				t.Fatalf("%x times the sum of %x and %x, by %x", a, b, c, m.M)
			}
			if Mul(Add(b, c, m), a, m) != Add(Mul(b, a, m), Mul(c, a, m), m) {
				t.Fatalf("the sum of %x and %x times %x, by %x", b, c, a, m.M)
			}
			if Mul(a, Sub(b, c, m), m) != Sub(Mul(a, b, m), Mul(a, c, m), m) {
				t.Fatalf("%x times the difference of %x and %x, by %x", a, b, c, m.M)
			}
			if Mul(Mul(a, b, m), c, m) != Mul(a, Mul(b, c, m), m) {
				t.Fatalf("%x, %x and %x, by %x", a, b, c, m.M)
			}
		}
	})
}

func TestSumsAndProductsGoEitherWayRound(t *testing.T) {
	eachPair(t, func(a, b api.U384, m api.Mod) {
		if Add(a, b, m) != Add(b, a, m) || Mul(a, b, m) != Mul(b, a, m) {
			t.Fatalf("%x, %x by %x", a, b, m.M)
		}
		if Add(Sub(a, b, m), b, m) != Add(a, api.U384{}, m) || Sub(Add(a, b, m), b, m) != Add(a, api.U384{}, m) {
			t.Fatalf("%x, and %x taken off and added, by %x", a, b, m.M)
		}
	})
}

func TestExponentsAddUp(t *testing.T) {
	sums := []struct{ d, e api.U384 }{
		{api.U384{}, api.U384{}},
		{api.U384{1}, api.U384{}},
		{api.U384{top}, api.U384{1}},
		{api.U384{5: half}, api.U384{top, top, top, top, top, half - 1}}, // 2^384 - 1 in all
		{api.U384{top - 1, top, top, top, top, top}, api.U384{1}},
		{most, api.U384{}},
	}
	r := rand.New(rand.NewSource(26))
	for range 2 {
		d, e := mixed(r), mixed(r)
		d[5] >>= 1
		e[5] >>= 1
		sums = append(sums, struct{ d, e api.U384 }{d, e})
	}
	for _, m := range moduli() {
		mod := newMod(t, m)
		for _, a := range edges(m) {
			for _, c := range sums {
				sum, carry := limb.Add(c.d, c.e)
				if carry != 0 {
					t.Fatal("the exponents are too great")
				}
				if Mul(Exp(a, c.d, mod), Exp(a, c.e, mod), mod) != Exp(a, sum, mod) {
					t.Fatalf("%x to the %x and the %x, by %x", a, c.d, c.e, m)
				}
			}
		}
	}
}

func TestFermat(t *testing.T) {
	for _, m := range []api.U384{primeP384, orderP384} {
		mod := newMod(t, m)
		less, _ := limb.Sub(m, api.U384{2})
		for _, a := range numbers(m) {
			want := api.U384{1}
			if a == (api.U384{}) || a == m {
				want = api.U384{}
			}
			if got := Mul(a, Exp(a, less, mod), mod); got != want {
				t.Errorf("%x by %x: %x", a, m, got)
			}
		}
	}
}

// R2, R3

func TestAnswersHangOnWhatIsGiven(t *testing.T) {
	m := newMod(t, orderP384)
	a, b := api.U384{1, 2, 3, 4, 5, 6}, most
	first := [...]api.U384{Add(a, b, m), Sub(a, b, m), Mul(a, b, m), Exp(a, b, m), Reduce(limb.Mul(a, b), m)}
	other := newMod(t, most)
	Mul(b, b, other)
	Exp(b, a, other)
	again := [...]api.U384{Add(a, b, m), Sub(a, b, m), Mul(a, b, m), Exp(a, b, m), Reduce(limb.Mul(a, b), m)}
	if first != again {
		t.Errorf("%x, then %x", first, again)
	}
	if m != newMod(t, orderP384) {
		t.Errorf("the modulus is %x", m)
	}
}
