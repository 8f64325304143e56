package order

import (
	"bytes"
	"math/big"
	"math/rand"
	"testing"

	"escutcheon/api"
	"escutcheon/limb"
	"escutcheon/modp"
)

const top = 1<<64 - 1

var most = api.U384{top, top, top, top, top, top}

// bigN is N as the chapter tells it.
func bigN() *big.Int {
	n, ok := new(big.Int).SetString("ffffffffffffffffffffffffffffffffffffffffffffffff"+
		"c7634d81f4372ddf581a0db248b0a77aecec196accc52973", 16)
	if !ok {
		panic("no number")
	}
	return n
}

func bigOf(a api.U384) *big.Int { return new(big.Int).SetBytes(limb.Bytes(a)) }

func numberOf(n *big.Int) api.U384 {
	a, err := limb.From(n.FillBytes(make([]byte, 48)))
	if err != nil {
		panic(err)
	}
	return a
}

// nearN is N and d.
func nearN(d int64) api.U384 { return numberOf(new(big.Int).Add(bigN(), big.NewInt(d))) }

// restOf is what math/big takes for a number's rest by N.
func restOf(n *big.Int) api.U384 { return numberOf(new(big.Int).Mod(n, bigN())) }

// overN is what 2^384 - 1 has above N.
func overN() api.U384 { return numberOf(new(big.Int).Sub(bigOf(most), bigN())) }

// halfUp is (N + 1) / 2.
func halfUp() api.U384 {
	return numberOf(new(big.Int).Rsh(new(big.Int).Add(bigN(), big.NewInt(1)), 1))
}

// edges are the numbers that the issue names (0, 1, 2, N - 1, N, N + 1, 2^384 - 1), and some near them.
func edges() []api.U384 {
	half := new(big.Int).Rsh(bigN(), 1)
	return []api.U384{
		{}, {1}, {2}, {3}, {top}, {0, 1},
		{5: 1 << 63}, {top, top, top, top, top, 1<<63 - 1},
		numberOf(half), halfUp(), overN(),
		nearN(-3), nearN(-2), nearN(-1), nearN(0), nearN(1), nearN(2), nearN(3),
		{top - 1, top, top, top, top, top}, most,
	}
}

// numbers are the edges and others, many limbs of which are 0, all ones or N's, so that carries run
// far and numbers lie close to N.
func numbers() []api.U384 {
	all := edges()
	r := rand.New(rand.NewSource(4))
	n := nearN(0)
	for range 40 {
		var a api.U384
		for i := range a {
			switch r.Intn(5) {
			case 0:
				a[i] = 0
			case 1:
				a[i] = top
			case 2:
				a[i] = n[i]
			default:
				a[i] = r.Uint64()
			}
		}
		all = append(all, a)
	}
	return all
}

// eachPair calls f with every two of the numbers.
func eachPair(f func(a, b api.U384)) {
	all := numbers()
	for _, a := range all {
		for _, b := range all {
			f(a, b)
		}
	}
}

// P4.1

func TestNIsTheOrder(t *testing.T) {
	if N() != numberOf(bigN()) {
		t.Errorf("N() = %x", N())
	}
	if !bigOf(N()).ProbablyPrime(32) {
		t.Errorf("%x is no prime", N())
	}
}

func TestModulusIsThatOfNew(t *testing.T) {
	want, err := modp.New(numberOf(bigN()))
	if err != nil || modulus() != want {
		t.Errorf("%x; want %x, %v", modulus(), want, err)
	}
}

func TestNIsNewMemory(t *testing.T) {
	n := N()
	n[0]++
	clear(n[1:])
	if N() != numberOf(bigN()) {
		t.Errorf("N() = %x", N())
	}
}

func TestExamples(t *testing.T) {
	for _, c := range []struct {
		what      string
		got, want api.U384
	}{
		{"Rest(0)", Rest(api.U384{}), api.U384{}},
		{"Rest(1)", Rest(api.U384{1}), api.U384{1}},
		{"Rest(N - 1)", Rest(nearN(-1)), nearN(-1)},
		{"Rest(N)", Rest(nearN(0)), api.U384{}},
		{"Rest(N + 1)", Rest(nearN(1)), api.U384{1}},
		{"Rest(2^384 - 1)", Rest(most), overN()},
		{"Add(N, 5)", Add(nearN(0), api.U384{5}), api.U384{5}},
		{"Add(5, N)", Add(api.U384{5}, nearN(0)), api.U384{5}},
		{"Add(0, 0)", Add(api.U384{}, api.U384{}), api.U384{}},
		{"Add(N - 1, 1)", Add(nearN(-1), api.U384{1}), api.U384{}},
		{"Add(N - 1, 2)", Add(nearN(-1), api.U384{2}), api.U384{1}},
		{"Add(N - 1, N - 1)", Add(nearN(-1), nearN(-1)), nearN(-2)},
		{"Add(N, N)", Add(nearN(0), nearN(0)), api.U384{}},
		{"Add(N + 1, N + 1)", Add(nearN(1), nearN(1)), api.U384{2}},
		{"Add(2^384 - 1, N + 1)", Add(most, nearN(1)), numberOf(new(big.Int).Add(bigOf(overN()), big.NewInt(1)))},
		{"Mul(0, 2^384 - 1)", Mul(api.U384{}, most), api.U384{}},
		{"Mul(1, 2^384 - 1)", Mul(api.U384{1}, most), overN()},
		{"Mul(2, (N + 1) / 2)", Mul(api.U384{2}, halfUp()), api.U384{1}},
		{"Mul(N - 1, N - 1)", Mul(nearN(-1), nearN(-1)), api.U384{1}},
		{"Mul(N - 1, 2)", Mul(nearN(-1), api.U384{2}), nearN(-2)},
		{"Mul(N + 1, N + 1)", Mul(nearN(1), nearN(1)), api.U384{1}},
		{"Mul(N, 2^384 - 1)", Mul(nearN(0), most), api.U384{}},
		{"Inv(0)", Inv(api.U384{}), api.U384{}},
		{"Inv(1)", Inv(api.U384{1}), api.U384{1}},
		{"Inv(2)", Inv(api.U384{2}), halfUp()},
		{"Inv((N + 1) / 2)", Inv(halfUp()), api.U384{2}},
		{"Inv(N - 1)", Inv(nearN(-1)), nearN(-1)},
		{"Inv(N)", Inv(nearN(0)), api.U384{}},
		{"Inv(N + 1)", Inv(nearN(1)), api.U384{1}},
		{"Inv(N + 2)", Inv(nearN(2)), halfUp()},
	} {
		if c.got != c.want {
			t.Errorf("%s = %x; want %x", c.what, c.got, c.want)
		}
	}
}

func TestRestIsTheRest(t *testing.T) {
	for _, a := range numbers() {
		if got := Rest(a); got != restOf(bigOf(a)) {
			t.Errorf("Rest(%x) = %x", a, got)
		}
	}
}

func TestSumsAndProductsAreRests(t *testing.T) {
	eachPair(func(a, b api.U384) {
		x, y := bigOf(a), bigOf(b)
		if got := Add(a, b); got != restOf(new(big.Int).Add(x, y)) {
			t.Fatalf("Add(%x, %x) = %x", a, b, got)
		}
		if got := Mul(a, b); got != restOf(new(big.Int).Mul(x, y)) {
			t.Fatalf("Mul(%x, %x) = %x", a, b, got)
		}
	})
}

func TestInvIsTheInverse(t *testing.T) {
	for _, a := range numbers() {
		want := api.U384{}
		if inverse := new(big.Int).ModInverse(bigOf(a), bigN()); inverse != nil {
			want = numberOf(inverse)
		}
		if got := Inv(a); got != want {
			t.Errorf("Inv(%x) = %x; want %x", a, got, want)
		}
	}
}

// P4.2

func TestDecodeBelowNAndNotZero(t *testing.T) {
	for _, a := range numbers() {
		b := limb.Bytes(a)
		want, wantErr := a, error(nil)
		if a == (api.U384{}) || bigOf(a).Cmp(bigN()) >= 0 {
			want, wantErr = api.U384{}, api.ErrRange
		}
		if got, err := Decode(b); got != want || err != wantErr {
			t.Errorf("Decode(%x) = %x, %v; want %x, %v", b, got, err, want, wantErr)
		}
		if !bytes.Equal(b, limb.Bytes(a)) {
			t.Errorf("Decode changed its bytes to %x", b)
		}
	}
}

func TestDecodeAtItsEdges(t *testing.T) {
	for _, a := range []api.U384{{1}, {2}, {0, 1}, {5: 1}, nearN(-1)} {
		if got, err := Decode(limb.Bytes(a)); got != a || err != nil {
			t.Errorf("Decode of %x = %x, %v", a, got, err)
		}
	}
	for _, b := range [][]byte{
		make([]byte, 48),
		limb.Bytes(nearN(0)),
		limb.Bytes(nearN(1)),
		bytes.Repeat([]byte{255}, 48),
	} {
		if got, err := Decode(b); got != (api.U384{}) || err != error(api.ErrRange) {
			t.Errorf("Decode(%x) = %x, %v", b, got, err)
		}
	}
}

func TestDigestIsTheRest(t *testing.T) {
	for _, a := range numbers() {
		b := limb.Bytes(a)
		if got, err := Digest(b); got != restOf(bigOf(a)) || err != nil {
			t.Errorf("Digest(%x) = %x, %v", b, got, err)
		}
		if !bytes.Equal(b, limb.Bytes(a)) {
			t.Errorf("Digest changed its bytes to %x", b)
		}
	}
}

func TestDigestAtItsEdges(t *testing.T) {
	for _, c := range []struct {
		b    []byte
		want api.U384
	}{
		{make([]byte, 48), api.U384{}},
		{limb.Bytes(api.U384{1}), api.U384{1}},
		{limb.Bytes(nearN(-1)), nearN(-1)},
		{limb.Bytes(nearN(0)), api.U384{}},
		{limb.Bytes(nearN(1)), api.U384{1}},
		{bytes.Repeat([]byte{255}, 48), overN()},
	} {
		if got, err := Digest(c.b); got != c.want || err != nil {
			t.Errorf("Digest(%x) = %x, %v; want %x", c.b, got, err, c.want)
		}
	}
}

// checkLength holds that both refuse bytes by their length, whatever the number is.
func checkLength(t *testing.T, b []byte, want error) {
	t.Helper()
	if got, err := Decode(b); got != (api.U384{}) || err != want {
		t.Errorf("Decode(%x) = %x, %v; want %v", b, got, err, want)
	}
	if got, err := Digest(b); got != (api.U384{}) || err != want {
		t.Errorf("Digest(%x) = %x, %v; want %v", b, got, err, want)
	}
}

func TestWrongLengths(t *testing.T) {
	checkLength(t, nil, api.ErrShort)
	for _, n := range []int{0, 1, 8, 47, 49, 56, 96, 1000} {
		want := api.ErrShort
		if n > 48 {
			want = api.ErrMore
		}
		// 0 and all ones are out of Decode's range as well: the error of the length comes first.
		for _, fill := range []byte{0, 1, 255} {
			checkLength(t, bytes.Repeat([]byte{fill}, n), want)
		}
	}
	// N's bytes, one too few, and with one more ahead or behind.
	n := limb.Bytes(nearN(0))
	checkLength(t, n[1:], api.ErrShort)
	checkLength(t, n[:47], api.ErrShort)
	checkLength(t, append([]byte{0}, n...), api.ErrMore)
	checkLength(t, append(bytes.Clone(n), 0), api.ErrMore)
}

// P4.3

func TestANumberTimesItsInvIsOne(t *testing.T) {
	for _, a := range numbers() {
		want := api.U384{1}
		if Rest(a) == (api.U384{}) {
			want = api.U384{}
		}
		if got := Mul(a, Inv(a)); got != want {
			t.Errorf("%x times its Inv is %x", a, got)
		}
		if got := Inv(Inv(a)); got != Rest(a) {
			t.Errorf("the Inv of the Inv of %x is %x", a, got)
		}
	}
}

func TestInvOfAProduct(t *testing.T) {
	all := edges()
	for _, a := range all {
		for _, b := range all {
			if Inv(Mul(a, b)) != Mul(Inv(a), Inv(b)) {
				t.Fatalf("%x and %x", a, b)
			}
		}
	}
}

func TestLawsOfSumsAndProducts(t *testing.T) {
	all := edges()
	for _, a := range all {
		if Add(a, api.U384{}) != Rest(a) || Mul(a, api.U384{1}) != Rest(a) {
			t.Fatalf("%x with 0 and 1", a)
		}
		for _, b := range all {
			if Add(a, b) != Add(b, a) || Mul(a, b) != Mul(b, a) {
				t.Fatalf("%x and %x", a, b)
			}
			for _, c := range all {
				if Add(Add(a, b), c) != Add(a, Add(b, c)) || Mul(Mul(a, b), c) != Mul(a, Mul(b, c)) {
					t.Fatalf("%x, %x and %x in another order", a, b, c)
				}
				if Mul(a, Add(b, c)) != Add(Mul(a, b), Mul(a, c)) {
					t.Fatalf("%x times the sum of %x and %x", a, b, c)
				}
			}
		}
	}
}
