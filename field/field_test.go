package field

import (
	"bytes"
	"math/big"
	"math/rand"
	"testing"

	"escutcheon/api"
	"escutcheon/limb"
	"escutcheon/modp"
)

const top = 1<<64 - 1

var most = api.U384{top, top, top, top, top, top}

// bigP is P as the chapter tells it: by powers of two, not by the table.
func bigP() *big.Int {
	p := powerOf(384)
	p.Sub(p, powerOf(128))
	p.Sub(p, powerOf(96))
	p.Add(p, powerOf(32))
	return p.Sub(p, big.NewInt(1))
}

// powerOf is 2^n.
func powerOf(n uint) *big.Int { return new(big.Int).Lsh(big.NewInt(1), n) }

func bigOf(a api.U384) *big.Int { return new(big.Int).SetBytes(limb.Bytes(a)) }

func numberOf(n *big.Int) api.U384 {
	a, err := limb.From(n.FillBytes(make([]byte, 48)))
	if err != nil {
		panic(err)
	}
	return a
}

// nearP is P and d.
func nearP(d int64) api.U384 { return numberOf(new(big.Int).Add(bigP(), big.NewInt(d))) }

// restOf is what math/big takes for a number's rest by P.
func restOf(n *big.Int) api.U384 { return numberOf(new(big.Int).Mod(n, bigP())) }

// edges are the numbers that the issue names (0, 1, 2, P - 1, P, P + 1, 2^384 - 1), and some near them.
func edges() []api.U384 {
	half := new(big.Int).Rsh(bigP(), 1)
	return []api.U384{
		{}, {1}, {2}, {3}, {4}, {top}, {0, 1},
		{5: 1 << 63}, {top, top, top, top, top, 1<<63 - 1},
		numberOf(half), numberOf(half.Add(half, big.NewInt(1))),
		numberOf(new(big.Int).Sub(powerOf(384), bigP())),
		nearP(-3), nearP(-2), nearP(-1), nearP(0), nearP(1), nearP(2), nearP(3),
		{top - 1, top, top, top, top, top}, most,
	}
}

// numbers are the edges and others, many limbs of which are 0 or all ones, so that carries run far.
func numbers() []api.U384 {
	all := edges()
	r := rand.New(rand.NewSource(3))
	for range 40 {
		var a api.U384
		for i := range a {
			switch r.Intn(4) {
			case 0:
				a[i] = 0
			case 1:
				a[i] = top
			default:
				a[i] = r.Uint64()
			}
		}
		all = append(all, a)
	}
	return all
}

// eachPair calls f with every two of the numbers.
func eachPair(f func(a, b api.U384)) {
	all := numbers()
	for _, a := range all {
		for _, b := range all {
			f(a, b)
		}
	}
}

// P3.1

func TestPIsThePrime(t *testing.T) {
	if P() != numberOf(bigP()) {
		t.Errorf("P() = %x", P())
	}
	if !bigOf(P()).ProbablyPrime(32) {
		t.Errorf("%x is no prime", P())
	}
}

func TestModulusIsThatOfNew(t *testing.T) {
	want, err := modp.New(numberOf(bigP()))
	if err != nil || modulus() != want {
		t.Errorf("%x; want %x, %v", modulus(), want, err)
	}
}

func TestPIsNewMemory(t *testing.T) {
	p := P()
	p[0]++
	clear(p[1:])
	if P() != numberOf(bigP()) {
		t.Errorf("P() = %x", P())
	}
}

func TestExamples(t *testing.T) {
	halfUp := numberOf(new(big.Int).Rsh(new(big.Int).Add(bigP(), big.NewInt(1)), 1))
	// 2^384 - 1 less P is 2^128 + 2^96 - 2^32.
	mostRest := api.U384{0xffffffff00000000, 0x00000000ffffffff, 1}
	for _, c := range []struct {
		what      string
		got, want api.U384
	}{
		{"Rest(0)", Rest(api.U384{}), api.U384{}},
		{"Rest(1)", Rest(api.U384{1}), api.U384{1}},
		{"Rest(P - 1)", Rest(nearP(-1)), nearP(-1)},
		{"Rest(P)", Rest(nearP(0)), api.U384{}},
		{"Rest(P + 1)", Rest(nearP(1)), api.U384{1}},
		{"Rest(2^384 - 1)", Rest(most), mostRest},
		{"Add(P - 1, 1)", Add(nearP(-1), api.U384{1}), api.U384{}},
		{"Add(P - 1, 2)", Add(nearP(-1), api.U384{2}), api.U384{1}},
		{"Add(P, P)", Add(nearP(0), nearP(0)), api.U384{}},
		{"Add(P + 1, P + 1)", Add(nearP(1), nearP(1)), api.U384{2}},
		{"Sub(0, 1)", Sub(api.U384{}, api.U384{1}), nearP(-1)},
		{"Sub(1, P + 1)", Sub(api.U384{1}, nearP(1)), api.U384{}},
		{"Sub(P, 0)", Sub(nearP(0), api.U384{}), api.U384{}},
		{"Sub(0, 2^384 - 1)", Sub(api.U384{}, most), numberOf(new(big.Int).Sub(bigP(), bigOf(mostRest)))},
		{"Mul(P - 1, P - 1)", Mul(nearP(-1), nearP(-1)), api.U384{1}},
		{"Mul(P - 1, 2)", Mul(nearP(-1), api.U384{2}), nearP(-2)},
		{"Mul(P + 1, P + 1)", Mul(nearP(1), nearP(1)), api.U384{1}},
		{"Mul(P, 2^384 - 1)", Mul(nearP(0), most), api.U384{}},
		{"Neg(0)", Neg(api.U384{}), api.U384{}},
		{"Neg(1)", Neg(api.U384{1}), nearP(-1)},
		{"Neg(P - 1)", Neg(nearP(-1)), api.U384{1}},
		{"Neg(P)", Neg(nearP(0)), api.U384{}},
		{"Neg(P + 1)", Neg(nearP(1)), nearP(-1)},
		{"Inv(0)", Inv(api.U384{}), api.U384{}},
		{"Inv(1)", Inv(api.U384{1}), api.U384{1}},
		{"Inv(2)", Inv(api.U384{2}), halfUp},
		{"Inv((P + 1) / 2)", Inv(halfUp), api.U384{2}},
		{"Inv(P - 1)", Inv(nearP(-1)), nearP(-1)},
		{"Inv(P)", Inv(nearP(0)), api.U384{}},
		{"Inv(P + 1)", Inv(nearP(1)), api.U384{1}},
		{"Inv(P + 2)", Inv(nearP(2)), halfUp},
	} {
		if c.got != c.want {
			t.Errorf("%s = %x; want %x", c.what, c.got, c.want)
		}
	}
}

func TestRestAndNegAreRests(t *testing.T) {
	for _, a := range numbers() {
		if got := Rest(a); got != restOf(bigOf(a)) {
			t.Errorf("Rest(%x) = %x", a, got)
		}
		if got := Neg(a); got != restOf(new(big.Int).Neg(bigOf(a))) {
			t.Errorf("Neg(%x) = %x", a, got)
		}
	}
}

func TestSumsDifferencesAndProductsAreRests(t *testing.T) {
	eachPair(func(a, b api.U384) {
		x, y := bigOf(a), bigOf(b)
		if got := Add(a, b); got != restOf(new(big.Int).Add(x, y)) {
			t.Fatalf("Add(%x, %x) = %x", a, b, got)
		}
		if got := Sub(a, b); got != restOf(new(big.Int).Sub(x, y)) {
			t.Fatalf("Sub(%x, %x) = %x", a, b, got)
		}
		if got := Mul(a, b); got != restOf(new(big.Int).Mul(x, y)) {
			t.Fatalf("Mul(%x, %x) = %x", a, b, got)
		}
	})
}

// P3.2

func TestInvIsTheInverse(t *testing.T) {
	for _, a := range numbers() {
		want := api.U384{}
		if inverse := new(big.Int).ModInverse(bigOf(a), bigP()); inverse != nil {
			want = numberOf(inverse)
		}
		if got := Inv(a); got != want {
			t.Errorf("Inv(%x) = %x; want %x", a, got, want)
		}
	}
}

func TestRootExamples(t *testing.T) {
	for _, c := range []struct {
		what string
		a    api.U384
		root api.U384
		err  error
	}{
		{"0", api.U384{}, api.U384{}, nil},
		{"P", nearP(0), api.U384{}, nil},
		{"1", api.U384{1}, nearP(-1), nil},
		{"P + 1", nearP(1), nearP(-1), nil},
		{"4", api.U384{4}, api.U384{2}, nil},
		{"P + 4", nearP(4), api.U384{2}, nil},
		{"9", api.U384{9}, nearP(-3), nil},
		{"16", api.U384{16}, api.U384{4}, nil},
		{"2^128", api.U384{0, 0, 1}, api.U384{0, 1}, nil},
		{"P - 1", nearP(-1), api.U384{}, api.ErrNone},
		{"P - 4", nearP(-4), api.U384{}, api.ErrNone},
		{"P - 9", nearP(-9), api.U384{}, api.ErrNone},
	} {
		if root, err := Root(c.a); root != c.root || err != c.err {
			t.Errorf("Root(%s) = %x, %v; want %x, %v", c.what, root, err, c.root, c.err)
		}
	}
}

// checkRoot holds Root against math/big's symbol of Jacobi, which tells whether there is a root.
func checkRoot(t *testing.T, a api.U384) {
	t.Helper()
	root, err := Root(a)
	if big.Jacobi(bigOf(a), bigP()) < 0 {
		if err != error(api.ErrNone) || root != (api.U384{}) {
			t.Errorf("Root(%x) = %x, %v; but there is none", a, root, err)
		}
		return
	}
	square := new(big.Int).Mul(bigOf(root), bigOf(root))
	if err != nil || root[0]%2 != 0 || bigOf(root).Cmp(bigP()) >= 0 || restOf(square) != restOf(bigOf(a)) {
		t.Errorf("Root(%x) = %x, %v", a, root, err)
	}
}

func TestRootIsTheEvenOne(t *testing.T) {
	for _, a := range numbers() {
		checkRoot(t, a)
	}
}

func TestRootOfSquares(t *testing.T) {
	for _, a := range numbers() {
		even := Rest(a)
		if even[0]%2 != 0 {
			even = numberOf(new(big.Int).Sub(bigP(), bigOf(even)))
		}
		if root, err := Root(Mul(a, a)); root != even || err != nil {
			t.Errorf("Root of the square of %x = %x, %v", a, root, err)
		}
		// -1 has no root: so what is taken off 0 has none where the number has one.
		if even == (api.U384{}) {
			continue
		}
		if root, err := Root(Neg(Mul(a, a))); root != (api.U384{}) || err != error(api.ErrNone) {
			t.Errorf("Root of 0 less the square of %x = %x, %v", a, root, err)
		}
	}
}

// P3.3

func TestDecodeBelowP(t *testing.T) {
	for _, a := range numbers() {
		b := limb.Bytes(a)
		want, wantErr := a, error(nil)
		if bigOf(a).Cmp(bigP()) >= 0 {
			want, wantErr = api.U384{}, api.ErrRange
		}
		if got, err := Decode(b); got != want || err != wantErr {
			t.Errorf("Decode(%x) = %x, %v; want %x, %v", b, got, err, want, wantErr)
		}
		if !bytes.Equal(b, limb.Bytes(a)) {
			t.Errorf("Decode changed its bytes to %x", b)
		}
	}
}

func TestDecodeAtItsEdges(t *testing.T) {
	for _, a := range []api.U384{{}, {1}, nearP(-1)} {
		if got, err := Decode(limb.Bytes(a)); got != a || err != nil {
			t.Errorf("Decode of %x = %x, %v", a, got, err)
		}
	}
	for _, a := range []api.U384{nearP(0), nearP(1), most} {
		if got, err := Decode(limb.Bytes(a)); got != (api.U384{}) || err != error(api.ErrRange) {
			t.Errorf("Decode of %x = %x, %v", a, got, err)
		}
	}
}

func TestDecodeWrongLengths(t *testing.T) {
	for _, n := range []int{0, 1, 8, 47, 49, 56, 96, 1000} {
		want := api.ErrShort
		if n > 48 {
			want = api.ErrMore
		}
		// All ones are not below P either: the error of the length comes first.
		for _, fill := range []byte{0, 1, 255} {
			if got, err := Decode(bytes.Repeat([]byte{fill}, n)); got != (api.U384{}) || err != error(want) {
				t.Errorf("Decode of %d bytes %x = %x, %v; want %v", n, fill, got, err, want)
			}
		}
	}
	if got, err := Decode(nil); got != (api.U384{}) || err != error(api.ErrShort) {
		t.Errorf("Decode(nil) = %x, %v", got, err)
	}
	// P's bytes, one too few, and with one more ahead or behind.
	p := limb.Bytes(nearP(0))
	for _, c := range []struct {
		b    []byte
		want error
	}{
		{p[1:], api.ErrShort},
		{p[:47], api.ErrShort},
		{append([]byte{0}, p...), api.ErrMore},
		{append(bytes.Clone(p), 0), api.ErrMore},
	} {
		if got, err := Decode(c.b); got != (api.U384{}) || err != c.want {
			t.Errorf("Decode(%x) = %x, %v; want %v", c.b, got, err, c.want)
		}
	}
}

// P3.4

func TestANumberTimesItsInvIsOne(t *testing.T) {
	for _, a := range numbers() {
		want := api.U384{1}
		if Rest(a) == (api.U384{}) {
			want = api.U384{}
		}
		if got := Mul(a, Inv(a)); got != want {
			t.Errorf("%x times its Inv is %x", a, got)
		}
		if got := Inv(Inv(a)); got != Rest(a) {
			t.Errorf("the Inv of the Inv of %x is %x", a, got)
		}
	}
}

func TestWhatWasTakenOffComesBack(t *testing.T) {
	eachPair(func(a, b api.U384) {
		if Add(Sub(a, b), b) != Rest(a) || Sub(Add(a, b), b) != Rest(a) {
			t.Fatalf("%x, and %x taken off and added", a, b)
		}
		if Sub(a, b) != Add(a, Neg(b)) || Sub(a, b) != Neg(Sub(b, a)) {
			t.Fatalf("%x less %x", a, b)
		}
	})
}

func TestLawsOfAField(t *testing.T) {
	all := edges()
	for _, a := range all {
		if Add(a, Neg(a)) != (api.U384{}) || Neg(Neg(a)) != Rest(a) || Mul(a, api.U384{1}) != Rest(a) {
			t.Fatalf("%x with 0 and 1", a)
		}
		for _, b := range all {
			if Add(a, b) != Add(b, a) || Mul(a, b) != Mul(b, a) || Mul(Neg(a), b) != Neg(Mul(a, b)) {
				t.Fatalf("%x and %x", a, b)
			}
			for _, c := range all {
				if Add(Add(a, b), c) != Add(a, Add(b, c)) || Mul(Mul(a, b), c) != Mul(a, Mul(b, c)) {
					t.Fatalf("%x, %x and %x in another order", a, b, c)
				}
				if Mul(a, Add(b, c)) != Add(Mul(a, b), Mul(a, c)) {
					t.Fatalf("%x times the sum of %x and %x", a, b, c)
				}
			}
		}
	}
}

func TestInvOfAProduct(t *testing.T) {
	all := edges()
	for _, a := range all {
		for _, b := range all {
			if Inv(Mul(a, b)) != Mul(Inv(a), Inv(b)) {
				t.Fatalf("%x and %x", a, b)
			}
		}
	}
}
