package ecies

import (
	"bytes"
	"math/big"
	"slices"
	"testing"

	"escutcheon/api"
	"escutcheon/curve"
	"escutcheon/ladder"
	"escutcheon/limb"
)

func checkUnwrap(t *testing.T, d api.U384, b, want []byte) {
	t.Helper()
	if got, err := Unwrap(d, b); err != nil || !bytes.Equal(got, want) {
		t.Errorf("Unwrap(%x, %x): %x, %v; not %x", d, b, got, err, want)
	}
}

func checkNotUnwrapped(t *testing.T, d api.U384, b []byte, want error) {
	t.Helper()
	if got, err := Unwrap(d, b); len(got) > 0 || err != want {
		t.Errorf("Unwrap(%x, %x): %x, %v; not %v", d, b, got, err, want)
	}
}

// sample is a secret, and a key that is wrapped for it.
func sample() (d api.U384, b, key []byte) {
	d, key = some("d"), bytesOf(32, 20)
	return d, wrapped(publicOf(d), some("k"), key), key
}

// with is a wrapped key, with another beginning.
func with(beginning, b []byte) []byte { return slices.Concat(beginning, b[len(beginning):]) }

func turned(b []byte, at int, mask byte) []byte {
	all := slices.Clone(b)
	all[at] ^= mask
	return all
}

// P15.2

func TestUnwrap(t *testing.T) {
	t.Parallel()
	for i, a := range atEdge() {
		key := keys()[i%len(keys())]
		checkUnwrap(t, a, wrapped(publicOf(a), some("k"), key), key)
		checkUnwrap(t, some("d"), wrapped(publicOf(some("d")), a, key), key)
		checkUnwrap(t, a, wrapped(publicOf(a), a, key), key)
	}
	for _, key := range keys() {
		checkUnwrap(t, some("d"), wrapped(publicOf(some("d")), some("k"), key), key)
	}
}

// Whoever wrapped it needn't know a number for the point: any one is taken, X of 0 and so on.
func TestUnwrapOfManyPoints(t *testing.T) {
	t.Parallel()
	for _, p := range []api.Point{pointFrom(0), opposite(pointFrom(0)), pointFrom(1 << 40), curve.G(), opposite(curve.G())} {
		d, key, told := some("d"), bytesOf(32, 21), toldOf(p)
		r := recipe{point: told, salt: told, x: xOf(d, p), aad: told, key: key, info: "wrap"}
		checkUnwrap(t, d, made(r), key)
	}
}

func TestSecretsThatUnwrapNothing(t *testing.T) {
	_, b, _ := sample()
	for _, d := range outOfRange() {
		checkNotUnwrapped(t, d, b, api.ErrRange)
		checkNotUnwrapped(t, d, wrapped(curve.G(), api.U384{1}, make([]byte, 32)), api.ErrRange)
	}
}

func TestRangeOfSecrets(t *testing.T) {
	for _, c := range rangeCases() {
		want := api.ErrRange
		if c.fits {
			want = api.ErrArg
		}
		checkNotUnwrapped(t, c.a, nil, want)
	}
}

// otherLengths are a wrapped key that is cut, and that has bytes behind.
func otherLengths(b []byte) [][]byte {
	all := [][]byte{nil, {}, bytes.Repeat(b, 2), make([]byte, 1000)}
	for n := range b {
		all = append(all, b[:n], b[len(b)-n:])
	}
	for n := range 20 {
		all = append(all, slices.Concat(b, make([]byte, n+1)), slices.Concat(make([]byte, n+1), b))
	}
	return all
}

func TestBytesOfOtherLengths(t *testing.T) {
	d, b, key := sample()
	for _, other := range otherLengths(b) {
		checkNotUnwrapped(t, d, other, api.ErrArg)
		checkNotUnwrapped(t, api.U384{1}, other, api.ErrArg)
	}
	// gcm would open keys of other lengths: they are no wrapped keys.
	for _, n := range lengthsOfNoKey() {
		checkNotUnwrapped(t, d, wrapped(publicOf(d), some("k"), bytesOf(n, 22)), api.ErrArg)
	}
	checkUnwrap(t, d, b, key)
}

// noPoints are 97 bytes that are no point, and what curve.Decode says of them.
func noPoints() map[string]error {
	g := toldOf(curve.G())
	all := map[string]error{}
	for first := range 256 {
		if first != 4 {
			all[string(with([]byte{byte(first)}, g))] = api.ErrForm
		}
	}
	for _, p := range []api.Point{
		beyond(), {X: nearP(0), Y: curve.G().Y}, {X: curve.G().X, Y: nearP(0)}, {X: most(), Y: most()},
		{X: nearP(0)}, {Y: nearP(0)}, {X: most()}, {Y: most()}, {X: nearP(0), Y: nearP(0)},
		{X: pointFrom(0).X, Y: most()},
	} {
		all[string(toldOf(p))] = api.ErrRange
	}
	for _, p := range []api.Point{
		{}, {X: curve.G().X}, {Y: curve.G().Y}, {X: curve.G().Y, Y: curve.G().X}, {X: nearP(-1), Y: nearP(-1)},
		{X: curve.G().X, Y: publicOf(api.U384{2}).Y}, {X: api.U384{1}, Y: api.U384{1}},
	} {
		all[string(toldOf(p))] = api.ErrPoint
	}
	all[string(make([]byte, 97))] = api.ErrForm
	all[string(bytes.Repeat([]byte{0xff}, 97))] = api.ErrForm
	all[string(slices.Concat([]byte{5}, bytes.Repeat([]byte{0xff}, 96)))] = api.ErrForm
	return all
}

func TestBytesThatAreNoPoint(t *testing.T) {
	d, b, _ := sample()
	for told, want := range noPoints() {
		if _, err := curve.Decode([]byte(told)); err != want {
			t.Errorf("%x: curve.Decode says %v, not %v", told, err, want)
		}
		checkNotUnwrapped(t, d, with([]byte(told), b), want)
		// What is sealed behind it may fit: it is still no point.
		r := recipeOf(publicOf(d), some("k"), bytesOf(32, 23))
		r.point, r.salt, r.aad = []byte(told), []byte(told), []byte(told)
		checkNotUnwrapped(t, d, made(r), want)
		checkNotUnwrapped(t, api.U384{1}, made(r), want)
	}
}

// R1
func TestUnwrapTellsTheFirstFault(t *testing.T) {
	good, b, _ := sample()
	for told, want := range noPoints() {
		bad := turned(with([]byte(told), b), 144, 1)
		for _, d := range outOfRange() {
			checkNotUnwrapped(t, d, bad, api.ErrRange)
			checkNotUnwrapped(t, d, bad[:144], api.ErrRange)
		}
		checkNotUnwrapped(t, good, bad[:144], api.ErrArg)
		checkNotUnwrapped(t, good, append(bad, 0), api.ErrArg)
		checkNotUnwrapped(t, good, bad, want)
	}
	for _, d := range outOfRange() {
		for _, other := range otherLengths(b) {
			checkNotUnwrapped(t, d, other, api.ErrRange)
		}
		checkNotUnwrapped(t, d, turned(b, 144, 1), api.ErrRange)
	}
	for _, other := range otherLengths(turned(b, 144, 1)) {
		checkNotUnwrapped(t, good, other, api.ErrArg)
	}
}

func TestAnotherPoint(t *testing.T) {
	t.Parallel()
	d, b, _ := sample()
	own := publicOf(some("k"))
	for _, p := range []api.Point{curve.G(), publicOf(some("another")), pointFrom(0), opposite(own), publicOf(d)} {
		checkNotUnwrapped(t, d, with(toldOf(p), b), api.ErrTag)
	}
	// The opposite point makes the same X: the bytes that go along are others still.
	r := recipeOf(publicOf(d), some("k"), bytesOf(32, 24))
	r.point = toldOf(opposite(own))
	checkNotUnwrapped(t, d, made(r), api.ErrTag)
}

func TestAnotherSecret(t *testing.T) {
	t.Parallel()
	d, b, key := sample()
	next := d
	next[0] ^= 1
	for _, other := range []api.U384{{1}, {2}, nearN(-1), some("another"), some("k"), next} {
		checkNotUnwrapped(t, other, b, api.ErrTag)
	}
	// Of the other point only X is told, which is that of its opposite, too.
	checkUnwrap(t, number(new(big.Int).Sub(bigN(), bigOf(d))), b, key)
}

// Each of these is sealed rightly, but in one thing otherwise than the chapter says.
func TestOtherSealings(t *testing.T) {
	t.Parallel()
	d, k, key := some("d"), some("k"), bytesOf(32, 25)
	q := publicOf(d)
	first := publicOf(k)
	// The library tells no Y of the other point: it is one of two, by the curve of layer 6.
	other, err := ladder.Mul(k, q)
	if err != nil {
		t.Fatal(err)
	}
	for name, change := range map[string]func(r *recipe){
		"no salt":                 func(r *recipe) { r.salt = nil },
		"salt of X alone":         func(r *recipe) { r.salt = limb.Bytes(first.X) },
		"salt of X and Y":         func(r *recipe) { r.salt = toldOf(first)[1:] },
		"salt of the public key":  func(r *recipe) { r.salt = toldOf(q) },
		"salt and X in exchange":  func(r *recipe) { r.salt, r.x = r.x, r.salt },
		"Y of the other point":    func(r *recipe) { r.x = limb.Bytes(other.Y) },
		"X and Y of the other":    func(r *recipe) { r.x = toldOf(other)[1:] },
		"all of the other's":      func(r *recipe) { r.x = toldOf(other) },
		"X of the first point":    func(r *recipe) { r.x = limb.Bytes(first.X) },
		"X of the public key":     func(r *recipe) { r.x = limb.Bytes(q.X) },
		"no bytes along":          func(r *recipe) { r.aad = nil },
		"X alone along":           func(r *recipe) { r.aad = limb.Bytes(first.X) },
		"the public key along":    func(r *recipe) { r.aad = toldOf(q) },
		"no purpose":              func(r *recipe) { r.info = "" },
		"another purpose":         func(r *recipe) { r.info = "Wrap" },
		"a purpose with a nought": func(r *recipe) { r.info = "wrap\x00" },
		"the nonce ahead":         func(r *recipe) { r.nonceFirst = true },
	} {
		r := recipeOf(q, k, key)
		change(&r)
		if got, err := Unwrap(d, made(r)); len(got) > 0 || err != api.ErrTag {
			t.Errorf("%s: %x, %v", name, got, err)
		}
	}
}

// P15.2, P15.4

// turnedFault is what is said of a wrapped key one of whose bytes was turned. Where the point was
// turned, it hangs on which bytes became of it: a point it can't be, but with great luck.
func turnedFault(b []byte, at int) error {
	x, y := new(big.Int).SetBytes(b[1:49]), new(big.Int).SetBytes(b[49:97])
	switch {
	case at == 0:
		return api.ErrForm
	case at >= 97:
		return api.ErrTag
	case x.Cmp(bigP()) >= 0 || y.Cmp(bigP()) >= 0:
		return api.ErrRange
	}
	return api.ErrPoint
}

func TestAByteTurned(t *testing.T) {
	t.Parallel()
	d, b, key := sample()
	for at := range b {
		masks := []byte{1 << (at % 8)}
		if at < 97 {
			masks = []byte{1, 2, 4, 8, 16, 32, 64, 128, 255}
		}
		for _, mask := range masks {
			other := turned(b, at, mask)
			checkNotUnwrapped(t, d, other, turnedFault(other, at))
		}
	}
	checkUnwrap(t, d, b, key)
}

func TestTagsTurned(t *testing.T) {
	t.Parallel()
	d, b, _ := sample()
	all := slices.Clone(b)
	flip(all[129:])
	backwards := slices.Clone(b)
	slices.Reverse(backwards[129:])
	for _, tag := range [][]byte{all[129:], backwards[129:], make([]byte, 16), bytes.Repeat([]byte{0xff}, 16), b[97:113]} {
		checkNotUnwrapped(t, d, slices.Concat(b[:129], tag), api.ErrTag)
	}
	checkNotUnwrapped(t, d, with(b[:97], make([]byte, 145)), api.ErrTag)
}

// P15.4

func TestWhatWasWrappedIsUnwrapped(t *testing.T) {
	t.Parallel()
	for i, d := range atEdge() {
		for j, k := range atEdge() {
			if (i+j)%4 != 0 {
				continue
			}
			key := bytesOf(32, i+10*j)
			b, err := Wrap(ladder.Base(d), k, key)
			if err != nil {
				t.Fatalf("Wrap for %x times G, by %x: %v", d, k, err)
			}
			checkUnwrap(t, d, b, key)
			flip(b[129:])
			checkNotUnwrapped(t, d, b, api.ErrTag)
		}
	}
}

func TestExamplesOfTheChapter(t *testing.T) {
	t.Parallel()
	d, k, key := some("a secret"), some("a number"), bytesOf(32, 26)
	b, err := Wrap(ladder.Base(d), k, key)
	if err != nil {
		t.Fatal(err)
	}
	checkUnwrap(t, d, b, key)
	checkNotWrapped(t, infinity(), api.U384{1}, make([]byte, 32), api.ErrPoint)
	checkNotUnwrapped(t, api.U384{1}, nil, api.ErrArg)
	checkNotUnwrapped(t, api.U384{1}, []byte{}, api.ErrArg)
}
