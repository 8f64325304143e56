package ecies

import (
	"bytes"
	"crypto/aes"
	"crypto/cipher"
	"crypto/ecdh"
	"crypto/elliptic"
	"crypto/hkdf"
	"crypto/sha512"
	"math/big"
	"slices"
	"strconv"
	"testing"

	"escutcheon/api"
	"escutcheon/curve"
	"escutcheon/limb"
)

// Inputs.

const top = 1<<64 - 1

func most() api.U384 { return api.U384{top, top, top, top, top, top} }

func infinity() api.Point { return api.Point{None: true} }

func bigOf(a api.U384) *big.Int { return new(big.Int).SetBytes(limb.Bytes(a)) }

func number(n *big.Int) api.U384 {
	a, err := limb.From(n.FillBytes(make([]byte, 48)))
	if err != nil {
		panic(err)
	}
	return a
}

func bigN() *big.Int { return elliptic.P384().Params().N }

func bigP() *big.Int { return elliptic.P384().Params().P }

func plus(n *big.Int, d int64) api.U384 { return number(new(big.Int).Add(n, big.NewInt(d))) }

func nearN(d int64) api.U384 { return plus(bigN(), d) }

func nearP(d int64) api.U384 { return plus(bigP(), d) }

// some is a number from 1 to N - 1, another for each text.
func some(text string) api.U384 {
	digest := sha512.Sum384([]byte(text))
	n := new(big.Int).SetBytes(digest[:])
	return number(n.Mod(n, new(big.Int).Sub(bigN(), big.NewInt(1))).Add(n, big.NewInt(1)))
}

// atEdge are numbers from 1 to N - 1.
func atEdge() []api.U384 {
	return []api.U384{{1}, {2}, nearN(-1), nearN(-2), some("one"), some("another"), {5: 1}, {2: 1 << 63}}
}

// outOfRange are numbers that are neither secrets nor wrap anything.
func outOfRange() []api.U384 {
	return []api.U384{{}, nearN(0), nearN(1), nearN(2), nearP(-1), nearP(0), nearP(1), most()}
}

// bytesOf are n bytes of which no two near each other are the same; another seed makes others.
func bytesOf(n, seed int) []byte {
	b := make([]byte, n)
	for i := range b {
		b[i] = byte(i*151 + seed*29 + 1)
	}
	return b
}

func keys() [][]byte {
	return [][]byte{make([]byte, 32), bytes.Repeat([]byte{0xff}, 32), bytesOf(32, 1), bytesOf(32, 2)}
}

func lengthsOfNoKey() []int { return []int{0, 1, 16, 31, 33, 48, 64, 97, 145, 1000} }

// Points, by another program.

func publicOf(d api.U384) api.Point { return pointOf(secretOf(d).PublicKey().Bytes()) }

func pointOf(told []byte) api.Point {
	return api.Point{X: number(new(big.Int).SetBytes(told[1:49])), Y: number(new(big.Int).SetBytes(told[49:]))}
}

func toldOf(p api.Point) []byte { return slices.Concat([]byte{4}, limb.Bytes(p.X), limb.Bytes(p.Y)) }

func opposite(p api.Point) api.Point {
	return api.Point{X: p.X, Y: number(new(big.Int).Sub(bigP(), bigOf(p.Y)))}
}

// pointFrom is a point of the first x that has one, from some x on: nobody knows its secret.
func pointFrom(x int64) api.Point {
	for ; ; x++ {
		n := big.NewInt(x)
		square := new(big.Int).Exp(n, big.NewInt(3), nil)
		square.Sub(square, new(big.Int).Mul(big.NewInt(3), n)).Add(square, elliptic.P384().Params().B)
		if y := new(big.Int).ModSqrt(square.Mod(square, bigP()), bigP()); y != nil {
			return api.Point{X: number(n), Y: number(y)}
		}
	}
}

// beyond is a point whose X has P added: the equation holds, but X isn't below P.
func beyond() api.Point {
	p := pointFrom(0)
	return api.Point{X: number(new(big.Int).Add(bigOf(p.X), bigP())), Y: p.Y}
}

// besides are those that nothing is wrapped for: the one at infinity, and what is no point.
func besides() []api.Point {
	g, next := curve.G(), curve.G()
	next.Y[0]++
	return []api.Point{
		infinity(), {}, {X: g.X, Y: g.Y, None: true}, {X: g.X, None: true}, {Y: g.Y, None: true}, {X: g.X}, {Y: g.Y},
		next, {X: g.Y, Y: g.X}, {X: g.X, Y: publicOf(api.U384{2}).Y}, beyond(), {X: nearP(0), Y: nearP(0)}, {X: most(), Y: most()},
		{X: g.X, Y: most()}, {X: most(), Y: g.Y}, {X: api.U384{1}, Y: api.U384{1}},
	}
}

// What the chapter says, told another way: by the library's ECDH, HKDF and AES-GCM.

func secretOf(d api.U384) *ecdh.PrivateKey {
	secret, err := ecdh.P384().NewPrivateKey(limb.Bytes(d))
	if err != nil {
		panic(err)
	}
	return secret
}

// xOf is the X of k times q.
func xOf(k api.U384, q api.Point) []byte {
	public, err := ecdh.P384().NewPublicKey(toldOf(q))
	if err != nil {
		panic(err)
	}
	x, err := secretOf(k).ECDH(public)
	if err != nil {
		panic(err)
	}
	return x
}

// recipe is all that a wrapped key is made of.
type recipe struct {
	point, salt, x, aad, key []byte
	info                     string
	nonceFirst               bool
}

func recipeOf(q api.Point, k api.U384, key []byte) recipe {
	point := secretOf(k).PublicKey().Bytes()
	return recipe{point: point, salt: point, x: xOf(k, q), aad: point, key: key, info: "wrap"}
}

func made(r recipe) []byte {
	prk, err := hkdf.Extract(sha512.New384, r.x, r.salt)
	if err != nil {
		panic(err)
	}
	both, err := hkdf.Expand(sha512.New384, prk, r.info, 44)
	if err != nil {
		panic(err)
	}
	key, nonce := both[:32], both[32:]
	if r.nonceFirst {
		nonce, key = both[:12], both[12:]
	}
	code, err := aes.NewCipher(key)
	if err != nil {
		panic(err)
	}
	sealer, err := cipher.NewGCM(code)
	if err != nil {
		panic(err)
	}
	return slices.Concat(r.point, sealer.Seal(nil, nonce, r.key, r.aad))
}

func wrapped(q api.Point, k api.U384, key []byte) []byte { return made(recipeOf(q, k, key)) }

func checkWrap(t *testing.T, q api.Point, k api.U384, key []byte) {
	t.Helper()
	got, err := Wrap(q, k, key)
	if err != nil || len(got) != 145 || !bytes.Equal(got, wrapped(q, k, key)) {
		t.Errorf("Wrap(%v, %x, %x): %x, %v", q, k, key, got, err)
	}
}

func checkNotWrapped(t *testing.T, q api.Point, k api.U384, key []byte, want error) {
	t.Helper()
	if got, err := Wrap(q, k, key); len(got) > 0 || err != want {
		t.Errorf("Wrap(%v, %x, %x): %x, %v; not %v", q, k, key, got, err, want)
	}
}

// P15.1

func TestWrap(t *testing.T) {
	t.Parallel()
	for i, a := range atEdge() {
		key := keys()[i%len(keys())]
		checkWrap(t, publicOf(some("q")), a, key)
		checkWrap(t, publicOf(a), some("k"), key)
		checkWrap(t, publicOf(a), a, key)
	}
	for _, key := range keys() {
		checkWrap(t, publicOf(some("q")), some("k"), key)
	}
}

func TestWrapForManyPoints(t *testing.T) {
	t.Parallel()
	for _, q := range []api.Point{curve.G(), opposite(curve.G()), pointFrom(0), opposite(pointFrom(0)), pointFrom(1 << 40)} {
		checkWrap(t, q, some("k"), bytesOf(32, 3))
		checkWrap(t, q, api.U384{1}, bytesOf(32, 4))
	}
}

// A number that is short has noughts ahead, in the point's bytes and in the other one's.
func TestWrapWithShortCoordinates(t *testing.T) {
	t.Parallel()
	q := publicOf(some("q"))
	short := map[string]func(k api.U384) bool{
		"X of the point":     func(k api.U384) bool { return publicOf(k).X[5]>>56 == 0 },
		"Y of the point":     func(k api.U384) bool { return publicOf(k).Y[5]>>56 == 0 },
		"X of the other one": func(k api.U384) bool { return xOf(k, q)[0] == 0 },
	}
	for name, isShort := range short {
		i := 0
		for !isShort(some(name + strconv.Itoa(i))) {
			i++
		}
		k := some(name + strconv.Itoa(i))
		checkWrap(t, q, k, bytesOf(32, 5))
		checkUnwrap(t, some("q"), wrapped(q, k, bytesOf(32, 5)), bytesOf(32, 5))
	}
}

// Of the other point only X is told: for a point and for its opposite the same is wrapped. The
// opposite of the first point has another Y among its bytes.
func TestWrapForOpposites(t *testing.T) {
	t.Parallel()
	q, k, key := publicOf(some("q")), some("k"), bytesOf(32, 6)
	first, err1 := Wrap(q, k, key)
	second, err2 := Wrap(opposite(q), k, key)
	third, err3 := Wrap(q, number(new(big.Int).Sub(bigN(), bigOf(k))), key)
	if err1 != nil || err2 != nil || err3 != nil {
		t.Fatal(err1, err2, err3)
	}
	if !bytes.Equal(first, second) {
		t.Error("for the opposite point something else is wrapped")
	}
	if !bytes.Equal(first[:49], third[:49]) || bytes.Equal(first[49:97], third[49:97]) || bytes.Equal(first[97:], third[97:]) {
		t.Error("the opposite number wraps the same")
	}
}

func TestKeysOfOtherLengths(t *testing.T) {
	t.Parallel()
	q, k := publicOf(some("q")), some("k")
	checkNotWrapped(t, q, k, nil, api.ErrArg)
	for _, n := range lengthsOfNoKey() {
		checkNotWrapped(t, q, k, make([]byte, n), api.ErrArg)
		checkNotWrapped(t, curve.G(), api.U384{1}, bytesOf(n, 7), api.ErrArg)
		// What lies behind doesn't count.
		checkNotWrapped(t, q, k, make([]byte, n, n+200), api.ErrArg)
	}
}

func TestNumbersThatWrapNothing(t *testing.T) {
	for _, k := range outOfRange() {
		for _, key := range keys() {
			checkNotWrapped(t, publicOf(some("q")), k, key, api.ErrRange)
			checkNotWrapped(t, curve.G(), k, key, api.ErrRange)
		}
	}
}

func TestPointsThatNothingIsWrappedFor(t *testing.T) {
	for _, q := range besides() {
		for _, k := range atEdge() {
			checkNotWrapped(t, q, k, bytesOf(32, 8), api.ErrPoint)
		}
	}
}

// R1
func TestWrapTellsTheFirstFault(t *testing.T) {
	for _, q := range append(besides(), curve.G()) {
		for _, k := range append(outOfRange(), api.U384{1}) {
			checkNotWrapped(t, q, k, nil, api.ErrArg)
			for _, n := range lengthsOfNoKey() {
				checkNotWrapped(t, q, k, make([]byte, n), api.ErrArg)
			}
			if k != (api.U384{1}) {
				checkNotWrapped(t, q, k, make([]byte, 32), api.ErrRange)
			}
		}
	}
}

// Each bit of a number counts, and each number about N: without a point that tells only its range.
func TestRangeOfWrappingNumbers(t *testing.T) {
	for _, c := range rangeCases() {
		want := api.ErrRange
		if c.fits {
			want = api.ErrPoint
		}
		checkNotWrapped(t, infinity(), c.a, make([]byte, 32), want)
	}
}

type rangeCase struct {
	a    api.U384
	fits bool
}

func rangeCases() []rangeCase {
	var all []rangeCase
	lay := func(n *big.Int) {
		if n.Sign() >= 0 && n.BitLen() <= 384 {
			all = append(all, rangeCase{number(n), n.Sign() > 0 && n.Cmp(bigN()) < 0})
		}
	}
	one := big.NewInt(1)
	for i := range uint(385) {
		power := new(big.Int).Lsh(one, i)
		lay(power)
		lay(new(big.Int).Sub(power, one))
		lay(new(big.Int).Add(bigN(), power))
		lay(new(big.Int).Sub(bigN(), power))
	}
	for i := range int64(100) {
		lay(new(big.Int).Add(bigN(), big.NewInt(i-50)))
		lay(big.NewInt(i))
		lay(bigOf(some("range" + strconv.FormatInt(i, 10))))
	}
	return all
}
