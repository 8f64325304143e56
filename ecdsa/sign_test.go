package ecdsa

import (
	"crypto/ecdsa"
	"crypto/elliptic"
	"crypto/sha512"
	"math/big"
	"testing"

	"escutcheon/api"
	"escutcheon/limb"
)

const top = 1<<64 - 1

var most = api.U384{top, top, top, top, top, top}

func bigOf(a api.U384) *big.Int { return new(big.Int).SetBytes(limb.Bytes(a)) }

func number(n *big.Int) api.U384 {
	a, err := limb.From(n.FillBytes(make([]byte, 48)))
	if err != nil {
		panic(err)
	}
	return a
}

func bigN() *big.Int { return elliptic.P384().Params().N }

func bigP() *big.Int { return elliptic.P384().Params().P }

// nearN is N and d.
func nearN(d int64) api.U384 { return number(new(big.Int).Add(bigN(), big.NewInt(d))) }

// modN is a number's rest, and divided is a over b, by another program.
func modN(n *big.Int) *big.Int { return new(big.Int).Mod(n, bigN()) }

func product(a, b *big.Int) *big.Int { return modN(new(big.Int).Mul(a, b)) }

func divided(a, b *big.Int) *big.Int { return product(a, new(big.Int).ModInverse(b, bigN())) }

func minus(n *big.Int) *big.Int { return modN(new(big.Int).Neg(n)) }

// some is a number from 1 to N - 1, another for each text.
func some(text string) api.U384 {
	digest := sha512.Sum384([]byte(text))
	n := modN(new(big.Int).SetBytes(digest[:]))
	if n.Sign() == 0 {
		panic("a number of 0")
	}
	return number(n)
}

func hex(s string) api.U384 {
	n, ok := new(big.Int).SetString(s, 16)
	if !ok {
		panic("no number: " + s)
	}
	return number(n)
}

func digestOf(text string) []byte {
	digest := sha512.Sum384([]byte(text))
	return digest[:]
}

// digests are those of noughts alone, of numbers about N, of the greatest number, and of messages.
func digests() [][]byte {
	return [][]byte{
		make([]byte, 48), limb.Bytes(api.U384{1}), limb.Bytes(nearN(-1)), limb.Bytes(nearN(0)), limb.Bytes(nearN(1)),
		limb.Bytes(nearN(5)), limb.Bytes(most), digestOf(""), digestOf("m"), digestOf("n"),
	}
}

// atEdge are numbers from 1 to N - 1.
func atEdge() []api.U384 {
	return []api.U384{{1}, {2}, nearN(-1), nearN(-2), some("one"), some("another"), {5: 1}, {top, top, top, top, top, 1<<63 - 1}}
}

// outOfRange are numbers that no secret, no nonce, no R and no S is.
func outOfRange() []api.U384 {
	return []api.U384{
		{}, nearN(0), nearN(1), nearN(2), most, {top - 1, top, top, top, top, top},
		number(bigP()), number(new(big.Int).Sub(bigP(), big.NewInt(1))),
	}
}

// signature is what another program takes for it: by the curve and the numbers of the library.
func signature(d, k api.U384, digest []byte) api.Sig {
	x, _ := elliptic.P384().ScalarBaseMult(limb.Bytes(k))
	r := modN(x)
	e := new(big.Int).SetBytes(digest)
	s := divided(e.Add(e, new(big.Int).Mul(r, bigOf(d))), bigOf(k))
	return api.Sig{R: number(r), S: number(s)}
}

// libraryHolds is what the library's own check says.
func libraryHolds(q api.Point, digest []byte, s api.Sig) bool {
	public := ecdsa.PublicKey{Curve: elliptic.P384(), X: bigOf(q.X), Y: bigOf(q.Y)}
	return ecdsa.Verify(&public, digest, bigOf(s.R), bigOf(s.S))
}

func publicOf(d api.U384) api.Point {
	x, y := elliptic.P384().ScalarBaseMult(limb.Bytes(d))
	return api.Point{X: number(x), Y: number(y)}
}

func sign(t *testing.T, d, k api.U384, digest []byte) api.Sig {
	t.Helper()
	s, err := Sign(d, k, digest)
	if err != nil {
		t.Fatalf("Sign(%x, %x, %x): %v", d, k, digest, err)
	}
	return s
}

// checkSign holds a signature against the reckoning above, and against the library's own check.
func checkSign(t *testing.T, d, k api.U384, digest []byte) {
	t.Helper()
	s := sign(t, d, k, digest)
	if s != signature(d, k, digest) {
		t.Errorf("Sign(%x, %x, %x) is %x", d, k, digest, s)
	}
	if !libraryHolds(publicOf(d), digest, s) {
		t.Errorf("Sign(%x, %x, %x): the library doesn't take it", d, k, digest)
	}
}

func checkNotSigned(t *testing.T, d, k api.U384, digest []byte, want error) {
	t.Helper()
	if s, err := Sign(d, k, digest); s != (api.Sig{}) || err != want {
		t.Errorf("Sign(%x, %x, %x): %x, %v; not %v", d, k, digest, s, err, want)
	}
}

// P14.1

func TestSign(t *testing.T) {
	t.Parallel()
	d, k := some("secret"), some("nonce")
	for _, digest := range digests() {
		checkSign(t, d, k, digest)
	}
	for i, a := range atEdge() {
		digest := digests()[i%len(digests())]
		checkSign(t, a, k, digest)
		checkSign(t, d, a, digest)
		checkSign(t, a, a, digest)
		checkSign(t, a, nearN(-1), digest)
	}
}

// The examples of RFC 6979, A.2.6, whose nonces it tells.
func examples() []struct {
	text string
	k    api.U384
	s    api.Sig
} {
	return []struct {
		text string
		k    api.U384
		s    api.Sig
	}{
		{
			"sample",
			hex("94ed910d1a099dad3254e9242ae85abde4ba15168eaf0ca87a555fd56d10fbca2907e3e83ba95368623b8c4686915cf9"),
			api.Sig{
				R: hex("94edbb92a5ecb8aad4736e56c691916b3f88140666ce9fa73d64c4ea95ad133c81a648152e44acf96e36dd1e80fabe46"),
				S: hex("99ef4aeb15f178cea1fe40db2603138f130e740a19624526203b6351d0a3a94fa329c145786e679e7b82c71a38628ac8"),
			},
		},
		{
			"test",
			hex("015ee46a5bf88773ed9123a5ab0807962d193719503c527b031b4c2d225092ada71f4a459bc0da98adb95837db8312ea"),
			api.Sig{
				R: hex("8203b63d3c853e8d77227fb377bcf7b7b772e97892a80f36ab775d509d7a5feb0542a7f0812998da8f1dd3ca3cf023db"),
				S: hex("ddd0760448d42d8a43af45af836fce4de8be06b485e9b61b827c2f13173923e06a739f040649a667bf3b828246baa5a5"),
			},
		},
	}
}

func exampleSecret() api.U384 {
	return hex("6b9d3dad2e1b8c1c05b19875b6659f4de23c3b667bf297ba9aa47740787137d896d5724e4c70a825f872c9ea60d2edf5")
}

func examplePublic() api.Point {
	return api.Point{
		X: hex("ec3a4e415b4e19a4568618029f427fa5da9a8bc4ae92e02e06aae5286b300c64def8f0ea9055866064a254515480bc13"),
		Y: hex("8015d9b72d7d57244ea8ef9ac0c621896708a59367f9dfb9f54ca84b3f1c9db1288b231c3ae0d4fe7344fd2533264720"),
	}
}

func TestExamplesOfOthers(t *testing.T) {
	t.Parallel()
	for _, x := range examples() {
		if s := sign(t, exampleSecret(), x.k, digestOf(x.text)); s != x.s {
			t.Errorf("%s is signed by %x", x.text, s)
		}
		checkVerify(t, examplePublic(), digestOf(x.text), x.s, nil)
	}
	checkVerify(t, examplePublic(), digestOf("sample"), examples()[1].s, api.ErrSign)
}

// lengths are digests that are too short or too long, and what is said of them.
func lengths() map[int]error {
	return map[int]error{
		0: api.ErrShort, 1: api.ErrShort, 32: api.ErrShort, 47: api.ErrShort,
		49: api.ErrMore, 64: api.ErrMore, 96: api.ErrMore, 1000: api.ErrMore,
	}
}

func TestSecretsAndNoncesOutOfRange(t *testing.T) {
	good := some("good")
	for _, digest := range [][]byte{digestOf("m"), make([]byte, 48), nil, {}, make([]byte, 47), make([]byte, 49)} {
		for _, bad := range outOfRange() {
			checkNotSigned(t, bad, good, digest, api.ErrRange)
			checkNotSigned(t, good, bad, digest, api.ErrRange)
			checkNotSigned(t, bad, api.U384{1}, digest, api.ErrRange)
			checkNotSigned(t, nearN(-1), bad, digest, api.ErrRange)
			checkNotSigned(t, bad, bad, digest, api.ErrRange)
		}
	}
}

func TestSignDigestsOfOtherLengths(t *testing.T) {
	checkNotSigned(t, some("d"), some("k"), nil, api.ErrShort)
	for n, want := range lengths() {
		checkNotSigned(t, some("d"), some("k"), make([]byte, n), want)
		checkNotSigned(t, api.U384{1}, nearN(-1), make([]byte, n), want)
	}
}

// An S of 0 is that of a digest of -R d. (Nobody knows a nonce for an R of 0.)
func TestSOfNought(t *testing.T) {
	t.Parallel()
	for _, k := range []api.U384{{1}, nearN(-1), some("k")} {
		d := some("d")
		r := bigOf(signature(d, k, digestOf("m")).R)
		e := minus(product(r, bigOf(d)))
		checkNotSigned(t, d, k, limb.Bytes(number(e)), api.ErrSign)
		next := number(modN(e.Add(e, big.NewInt(1))))
		checkSign(t, d, k, limb.Bytes(next))

		// The same of a digest that is 5 above N, by the secret -5 / R.
		d = number(divided(big.NewInt(-5), r))
		checkNotSigned(t, d, k, limb.Bytes(nearN(5)), api.ErrSign)
		checkNotSigned(t, d, k, limb.Bytes(api.U384{5}), api.ErrSign)
		checkSign(t, d, k, limb.Bytes(nearN(6)))
	}
}
