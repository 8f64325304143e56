package ecdsa

import (
	"bytes"
	"crypto"
	"crypto/ecdsa"
	"crypto/elliptic"
	"encoding/asn1"
	"math/big"
	"slices"
	"strconv"
	"testing"

	"escutcheon/api"
	"escutcheon/curve"
	"escutcheon/ladder"
	"escutcheon/limb"
)

func checkVerify(t *testing.T, q api.Point, digest []byte, s api.Sig, want error) {
	t.Helper()
	if err := Verify(q, digest, s); err != want {
		t.Errorf("Verify(%v, %x, %x): %v, not %v", q, digest, s, err, want)
	}
}

// checkAsLibrary holds Verify against the library's own check, where nothing but the signature can be amiss.
func checkAsLibrary(t *testing.T, q api.Point, digest []byte, s api.Sig) {
	t.Helper()
	want := error(nil)
	if !libraryHolds(q, digest, s) {
		want = api.ErrSign
	}
	checkVerify(t, q, digest, s, want)
}

func negated(p api.Point) api.Point {
	return api.Point{X: p.X, Y: number(new(big.Int).Sub(bigP(), bigOf(p.Y)))}
}

func times(k *big.Int, p api.Point) api.Point {
	x, y := elliptic.P384().ScalarMult(bigOf(p.X), bigOf(p.Y), k.Bytes())
	return api.Point{X: number(x), Y: number(y)}
}

func plus(p, q api.Point) api.Point {
	x, y := elliptic.P384().Add(bigOf(p.X), bigOf(p.Y), bigOf(q.X), bigOf(q.Y))
	return api.Point{X: number(x), Y: number(y)}
}

// pointFrom is a point of the first x that has one, from some x on.
func pointFrom(x *big.Int) api.Point {
	for x = new(big.Int).Set(x); ; x.Add(x, big.NewInt(1)) {
		square := new(big.Int).Exp(x, big.NewInt(3), nil)
		square.Sub(square, new(big.Int).Mul(big.NewInt(3), x)).Add(square, elliptic.P384().Params().B)
		if y := new(big.Int).ModSqrt(square.Mod(square, bigP()), bigP()); y != nil {
			return api.Point{X: number(x), Y: number(y)}
		}
	}
}

// madeFor is a signature with a given S, and the point for which it holds, where the nonce's own
// point is given, and nobody knows the nonce: q is (S times that point, less e times G) over R.
func madeFor(nonces api.Point, s api.U384, digest []byte) (api.Point, api.Sig) {
	r := modN(bigOf(nonces.X))
	q := times(bigOf(s), nonces)
	if e := modN(new(big.Int).SetBytes(digest)); e.Sign() != 0 {
		q = plus(q, negated(times(e, curve.G())))
	}
	return times(divided(big.NewInt(1), r), q), api.Sig{R: number(r), S: s}
}

func opposite(a api.U384) api.U384 { return number(minus(bigOf(a))) }

// P14.2, P14.4

func TestWhatWasSignedHolds(t *testing.T) {
	t.Parallel()
	for i, d := range atEdge() {
		for j, digest := range digests() {
			if (i+j)%4 != 0 {
				continue
			}
			s := sign(t, d, some(strconv.Itoa(i+10*j)), digest)
			checkVerify(t, publicOf(d), digest, s, nil)
			checkVerify(t, publicOf(d), digest, api.Sig{R: s.R, S: opposite(s.S)}, nil)
		}
	}
}

func TestWhatWasSignedHoldsForAMultipleOfG(t *testing.T) {
	t.Parallel()
	for _, d := range atEdge()[:5] {
		digest := digestOf("the chapter's example")
		checkVerify(t, ladder.Base(d), digest, sign(t, d, some("k"), digest), nil)
		checkVerify(t, ladder.Base(d), digest, sign(t, d, d, digest), nil)
	}
}

// What the library signs holds here.
func TestWhatOthersSignedHolds(t *testing.T) {
	t.Parallel()
	for _, text := range []string{"a", "b", "c"} {
		d := some(text)
		private, err := ecdsa.ParseRawPrivateKey(elliptic.P384(), limb.Bytes(d))
		if err != nil {
			t.Fatal(err)
		}
		digest := digestOf("by another program: " + text)
		b, err := private.Sign(nil, digest, crypto.SHA384)
		if err != nil {
			t.Fatal(err)
		}
		var told struct{ R, S *big.Int }
		if rest, err := asn1.Unmarshal(b, &told); err != nil || len(rest) > 0 {
			t.Fatal(rest, err)
		}
		s := api.Sig{R: number(told.R), S: number(told.S)}
		checkVerify(t, publicOf(d), digest, s, nil)
		checkVerify(t, publicOf(some("nobody")), digest, s, api.ErrSign)
		if got, err := Decode(b); err != nil || got != s {
			t.Errorf("Decode(%x): %x, %v", b, got, err)
		}
	}
}

// R is an X modulo N: there are points whose X is N and more.
func TestXOfNAndMore(t *testing.T) {
	t.Parallel()
	more := new(big.Int).Add(bigN(), big.NewInt(1))
	for _, from := range []*big.Int{more, new(big.Int).Sub(bigP(), big.NewInt(1000))} {
		point := pointFrom(from)
		q, s := madeFor(point, some("s"), digestOf("m"))
		if s.R == point.X || !libraryHolds(q, digestOf("m"), s) {
			t.Fatalf("%x was not made for %v", s, q)
		}
		checkVerify(t, q, digestOf("m"), s, nil)
		checkVerify(t, q, digestOf("n"), s, api.ErrSign)
		// R itself is below N, whatever X is.
		checkVerify(t, q, digestOf("m"), api.Sig{R: point.X, S: s.S}, api.ErrRange)
	}
}

func TestRAndSAtEdges(t *testing.T) {
	t.Parallel()
	back := func(d int64) *big.Int { return new(big.Int).Sub(bigN(), big.NewInt(d)) }
	lowest, highest := pointFrom(big.NewInt(1)), pointFrom(back(1))
	if !slices.Contains([]api.U384{{1}, {2}, {3}}, lowest.X) {
		t.Fatalf("the lowest X is %x", lowest.X)
	}
	for i := int64(2); bigOf(highest.X).Cmp(bigN()) >= 0; i++ {
		highest = pointFrom(back(i))
	}
	for _, point := range []api.Point{lowest, highest, curve.G()} {
		for _, value := range []api.U384{{1}, nearN(-1), some("s")} {
			q, s := madeFor(point, value, digestOf("m"))
			if !libraryHolds(q, digestOf("m"), s) {
				t.Fatalf("%x was not made for %v", s, q)
			}
			checkVerify(t, q, digestOf("m"), s, nil)
			checkVerify(t, negated(q), digestOf("m"), s, api.ErrSign)
		}
	}
	for _, r := range []api.U384{{1}, {2}, nearN(-1)} {
		for _, s := range []api.U384{{1}, nearN(-1)} {
			checkAsLibrary(t, curve.G(), digestOf("m"), api.Sig{R: r, S: s})
		}
	}
}

// A number and N more leave the same rest, but only of a digest that is asked for.
func TestSmallSAndNMore(t *testing.T) {
	t.Parallel()
	q, s := madeFor(publicOf(some("k")), api.U384{1}, limb.Bytes(api.U384{5}))
	checkVerify(t, q, limb.Bytes(api.U384{5}), s, nil)
	checkVerify(t, q, limb.Bytes(nearN(5)), s, nil)
	checkVerify(t, q, limb.Bytes(nearN(6)), s, api.ErrSign)
	checkVerify(t, q, limb.Bytes(api.U384{5}), api.Sig{R: s.R, S: nearN(1)}, api.ErrRange)
}

// The sum is the point at infinity for the point of -e / R, whatever S is.
func TestSumAtInfinity(t *testing.T) {
	t.Parallel()
	digest := digestOf("m")
	e := new(big.Int).SetBytes(digest)
	for _, r := range []api.U384{{1}, nearN(-1), some("r")} {
		q := publicOf(number(divided(minus(e), bigOf(r))))
		for _, s := range []api.U384{{1}, some("s")} {
			checkVerify(t, q, digest, api.Sig{R: r, S: s}, api.ErrSign)
		}
	}
}

// Both that are added are one point where q is e / R times G; and that of G is none where e is 0.
func TestSumOfOnePoint(t *testing.T) {
	t.Parallel()
	digest, k := digestOf("m"), some("k")
	e := modN(new(big.Int).SetBytes(digest))
	r := bigOf(signature(k, k, digest).R)
	d := number(divided(e, r))
	checkVerify(t, publicOf(d), digest, sign(t, d, k, digest), nil)
	for _, nought := range [][]byte{make([]byte, 48), limb.Bytes(nearN(0))} {
		s := sign(t, d, k, nought)
		checkVerify(t, publicOf(d), nought, s, nil)
		checkVerify(t, publicOf(d), limb.Bytes(api.U384{1}), s, api.ErrSign)
		// Of noughts the X alone counts, so that the opposite point fits, too.
		checkVerify(t, negated(publicOf(d)), nought, s, nil)
	}
}

func turned(a api.U384, bit int) api.U384 {
	a[bit/64] ^= 1 << (bit % 64)
	return a
}

func TestWhatDoesNotHold(t *testing.T) {
	t.Parallel()
	d, digest := some("d"), digestOf("m")
	q, s := publicOf(d), sign(t, d, some("k"), digest)
	checkVerify(t, q, digest, s, nil)
	for _, other := range []api.Point{negated(q), curve.G(), negated(curve.G()), publicOf(some("other")), plus(q, curve.G())} {
		checkVerify(t, other, digest, s, api.ErrSign)
	}
	for _, other := range [][]byte{
		digestOf("n"), make([]byte, 48), limb.Bytes(most), limb.Bytes(nearN(0)), slices.Concat(digest[1:], digest[:1]),
		limb.Bytes(number(minus(new(big.Int).SetBytes(digest)))),
	} {
		checkVerify(t, q, other, s, api.ErrSign)
	}
	for _, other := range []api.Sig{
		{R: s.S, S: s.R}, {R: opposite(s.R), S: s.S}, {R: opposite(s.R), S: opposite(s.S)},
		{R: s.R, S: s.R}, {R: s.S, S: s.S}, {R: api.U384{1}, S: s.S}, {R: nearN(-1), S: s.S},
		{R: s.R, S: api.U384{1}}, {R: s.R, S: nearN(-1)}, sign(t, d, some("k"), digestOf("n")),
		{R: s.R, S: number(divided(big.NewInt(1), bigOf(s.S)))},
	} {
		checkVerify(t, q, digest, other, api.ErrSign)
	}
}

func TestTurnedBits(t *testing.T) {
	t.Parallel()
	d, digest := some("d"), digestOf("m")
	q, s := publicOf(d), sign(t, d, some("k"), digest)
	for _, bit := range []int{0, 1, 63, 64, 127, 191, 192, 200, 256, 320, 382, 383} {
		checkAsLibrary(t, q, digest, api.Sig{R: turned(s.R, bit), S: s.S})
		checkAsLibrary(t, q, digest, api.Sig{R: s.R, S: turned(s.S, bit)})
		other := slices.Clone(digest)
		other[bit/8] ^= 1 << (bit % 8)
		checkVerify(t, q, other, s, api.ErrSign)
	}
}

// noPoints are no points, or the one at infinity.
func noPoints() []api.Point {
	g, low := curve.G(), pointFrom(new(big.Int))
	turnedX, turnedY := g, g
	turnedX.X[0] ^= 1
	turnedY.Y[5] ^= 1 << 63
	over := low
	over.X = number(new(big.Int).Add(bigOf(low.X), bigP()))
	marked := g
	marked.None = true
	return []api.Point{
		{None: true}, {}, turnedX, turnedY, over, marked, {X: g.Y, Y: g.X}, {X: g.X}, {Y: g.Y},
		{X: most, Y: most}, {X: most, Y: most, None: true}, {X: number(bigP()), Y: low.Y}, {X: g.X, Y: number(bigP())},
		{X: api.U384{1}, None: true}, {Y: api.U384{1}, None: true},
	}
}

func TestVerifyNoPoints(t *testing.T) {
	d := some("d")
	good := signature(d, some("k"), digestOf("m"))
	for _, q := range noPoints() {
		for _, digest := range [][]byte{digestOf("m"), nil, make([]byte, 47), make([]byte, 49)} {
			for _, s := range []api.Sig{good, {}, {R: good.R}, {R: most, S: most}, {R: api.U384{1}, S: api.U384{1}}} {
				checkVerify(t, q, digest, s, api.ErrPoint)
			}
		}
	}
}

func TestVerifyDigestsOfOtherLengths(t *testing.T) {
	good := signature(some("d"), some("k"), digestOf("m"))
	for _, s := range []api.Sig{good, {}, {R: good.R}, {S: good.S}, {R: most, S: nearN(0)}} {
		checkVerify(t, publicOf(some("d")), nil, s, api.ErrShort)
		for n, want := range lengths() {
			checkVerify(t, publicOf(some("d")), bytes.Repeat([]byte{0xa5}, n), s, want)
			checkVerify(t, curve.G(), make([]byte, n), s, want)
		}
	}
}

func TestVerifyRAndSOutOfRange(t *testing.T) {
	t.Parallel()
	q, digest := publicOf(some("d")), digestOf("m")
	good := signature(some("d"), some("k"), digest)
	checkVerify(t, curve.G(), digest, api.Sig{}, api.ErrRange)
	for _, bad := range outOfRange() {
		for _, s := range []api.Sig{
			{R: bad, S: good.S}, {R: good.R, S: bad}, {R: bad, S: bad},
			{R: bad, S: api.U384{1}}, {R: api.U384{1}, S: bad}, {R: nearN(-1), S: bad}, {R: bad, S: nearN(-1)},
		} {
			checkVerify(t, q, digest, s, api.ErrRange)
			checkVerify(t, curve.G(), make([]byte, 48), s, api.ErrRange)
		}
	}
}

// What is signed by some secrets and nonces, and then turned or not, holds as the library says.
func TestAsTheLibrary(t *testing.T) {
	t.Parallel()
	for i := range 24 {
		text := strconv.Itoa(i)
		d, digest := some("secret "+text), digestOf(text)
		s := signature(d, some("nonce "+text), digest)
		switch i % 4 {
		case 1:
			s.S = opposite(s.S)
		case 2:
			s.R = some("R " + text)
		case 3:
			digest = digestOf("another than " + text)
		}
		checkAsLibrary(t, publicOf(d), digest, s)
	}
}
