package gcm

import (
	"bytes"
	"crypto/aes"
	"crypto/cipher"
	"encoding/binary"
	"encoding/hex"
	"math/rand"
	"slices"
	"strings"
	"testing"

	"escutcheon/api"
	"escutcheon/ghash"
)

// What the chapter says, told another way: by the library, whole and piece by piece.

func wantSeal(t *testing.T, key, nonce, aad, b []byte) []byte {
	t.Helper()
	sealer, err := cipher.NewGCM(libraryCode(t, key))
	if err != nil {
		t.Fatal(err)
	}
	return sealer.Seal(nil, nonce, b, aad)
}

func libraryCode(t *testing.T, key []byte) cipher.Block {
	t.Helper()
	code, err := aes.NewCipher(key)
	if err != nil {
		t.Fatal(err)
	}
	return code
}

// counterCode is the code of the counter's block n.
func counterCode(t *testing.T, key, nonce []byte, n uint32) []byte {
	t.Helper()
	block := binary.BigEndian.AppendUint32(slices.Clone(nonce), n)
	libraryCode(t, key).Encrypt(block, block)
	return block
}

// wantRow is as many bytes of the row, made of all its blocks laid together.
func wantRow(t *testing.T, key, nonce []byte, size int) []byte {
	t.Helper()
	var row []byte
	for n := uint32(2); len(row) < size; n++ {
		row = append(row, counterCode(t, key, nonce, n)...)
	}
	return row[:size]
}

func wantTag(t *testing.T, key, nonce, aad, hidden []byte) []byte {
	t.Helper()
	var h [16]byte
	libraryCode(t, key).Encrypt(h[:], h[:])
	sum := ghash.Whole(h, aad, hidden)
	return xor(sum[:], counterCode(t, key, nonce, 1))
}

// Inputs.

func xor(a, b []byte) []byte {
	all := slices.Clone(a)
	for i := range all {
		all[i] ^= b[i]
	}
	return all
}

func bytesFrom(told string) []byte {
	b, err := hex.DecodeString(strings.Join(strings.Fields(told), ""))
	if err != nil {
		panic(err)
	}
	return b
}

// bytesOf are n bytes of which no two near each other are the same; another seed makes others.
func bytesOf(n, seed int) []byte {
	b := make([]byte, n)
	for i := range b {
		b[i] = byte(i*151 + i/256*7 + seed*29 + 1)
	}
	return b
}

// turned are bytes with one bit turned.
func turned(b []byte, bit int) []byte {
	all := slices.Clone(b)
	all[bit/8] ^= 1 << (bit % 8)
	return all
}

// lengthsNamed are those that the issue names.
func lengthsNamed() []int { return []int{0, 1, 15, 16, 17, 31, 32, 33} }

// inputs are nil, and bytes of the lengths named: counted ones, all 0 and all ff.
func inputs(seed int) [][]byte {
	all := [][]byte{nil}
	for _, n := range lengthsNamed() {
		all = append(all, bytesOf(n, seed), make([]byte, n), bytes.Repeat([]byte{0xff}, n))
	}
	return all
}

// pair is a key and a nonce.
type pair struct{ key, nonce []byte }

func pairs() []pair {
	return []pair{
		{make([]byte, 32), make([]byte, 12)},
		{bytes.Repeat([]byte{0xff}, 32), bytes.Repeat([]byte{0xff}, 12)},
		{bytesOf(32, 1), bytesOf(12, 2)},
	}
}

// Checks.

func checkSeal(t *testing.T, p pair, aad, b []byte) {
	t.Helper()
	want := wantSeal(t, p.key, p.nonce, aad, b)
	if got, err := Seal(p.key, p.nonce, aad, b); err != nil || !bytes.Equal(got, want) {
		t.Fatalf("Seal(%x, %x) of %d and %d bytes = %s, %v; want %s", p.key, p.nonce, len(aad), len(b), short(got), err, short(want))
	}
}

func checkOpen(t *testing.T, p pair, aad, sealed, want []byte) {
	t.Helper()
	if got, err := Open(p.key, p.nonce, aad, sealed); err != nil || !bytes.Equal(got, want) {
		t.Fatalf("Open(%x, %x) of %d and %d bytes = %s, %v; want %s", p.key, p.nonce, len(aad), len(sealed), short(got), err, short(want))
	}
}

// checkRefused finds that a call answered an error itself, and nothing beside it.
func checkRefused(t *testing.T, what string, got []byte, err error, want api.Code) {
	t.Helper()
	if err != want || len(got) != 0 {
		t.Errorf("%s: %d bytes, %v; want %v", what, len(got), err, want)
	}
}

// short is the end of bytes, which may be many.
func short(b []byte) string { return hex.EncodeToString(b[max(0, len(b)-64):]) }

// P11.2

func TestSealsWrittenOut(t *testing.T) {
	noughts, key := strings.Repeat("00", 32), strings.Repeat("feffe9928665731c6d6a8f9467308308", 2)
	const nonce = "cafebabefacedbaddecaf888"
	const plain = `d9313225f88406e5a55909c5aff5269a 86a7a9531534f7da2e4c303d8a318a72
		1c3c0c95956809532fcf0e2449a6b525 b16aedf5aa0de657ba637b39`
	const hidden = `522dc1f099567d07f47f37a32a84427d 643a8cdcbfe5c0c97598a2bd2555d1aa
		8cb08e48590dbb3da7b08b1056828838 c5f61e6393ba7a0abcc9f662`
	// The first two are the chapter's; all are GCM's specification's, test cases 13 to 16.
	for _, c := range []struct{ key, nonce, aad, b, want string }{
		{noughts, noughts[:24], "", "", "530f8afb c74536b9 a963b4f1 c4cb738b"},
		{noughts, noughts[:24], "", noughts[:32], "cea7403d 4d606b6e 074ec5d3 baf39d18 d0d1c8a7 99996bf0 265b98b5 d48ab919"},
		{key, nonce, "", plain + "1aafd255", hidden + "898015ad b094dac5d93471bdec1a502270e3cc6c"},
		{key, nonce, "feedfacedeadbeeffeedfacedeadbeef abaddad2", plain, hidden + "76fc6ece0f4e1768cddf8853bb2d551b"},
	} {
		key, nonce, aad, b := bytesFrom(c.key), bytesFrom(c.nonce), bytesFrom(c.aad), bytesFrom(c.b)
		if got, err := Seal(key, nonce, aad, b); err != nil || !bytes.Equal(got, bytesFrom(c.want)) {
			t.Errorf("Seal(%s, %s, %s, %s) = %x, %v; want %s", c.key, c.nonce, c.aad, c.b, got, err, c.want)
		}
		if got, err := Open(key, nonce, aad, bytesFrom(c.want)); err != nil || !bytes.Equal(got, b) {
			t.Errorf("Open(%s, %s, %s, %s) = %x, %v; want %s", c.key, c.nonce, c.aad, c.want, got, err, c.b)
		}
	}
}

func TestSeals(t *testing.T) {
	for _, p := range pairs() {
		for _, aad := range inputs(3) {
			for _, b := range inputs(4) {
				checkSeal(t, p, aad, b)
			}
		}
	}
}

func TestSealsOfEveryLength(t *testing.T) {
	p := pair{bytesOf(32, 5), bytesOf(12, 6)}
	for n := range 100 {
		checkSeal(t, p, bytesOf(100-n, 7), bytesOf(n, 8))
	}
}

// As the chapter has it: what is hidden by the row, and the tag of that behind.
func TestSealIsMadeOfItsParts(t *testing.T) {
	for _, p := range pairs() {
		for _, aad := range inputs(9) {
			for _, b := range inputs(10) {
				hidden := xor(b, wantRow(t, p.key, p.nonce, len(b)))
				want := slices.Concat(hidden, wantTag(t, p.key, p.nonce, aad, hidden))
				if got, err := Seal(p.key, p.nonce, aad, b); err != nil || !bytes.Equal(got, want) {
					t.Fatalf("Seal(%x, %x, %x, %x) = %x, %v; by its parts %x", p.key, p.nonce, aad, b, got, err, want)
				}
			}
		}
	}
}

// The row's blocks 254 and 65534 are the first whose counter has one byte more.
func TestCounterGoesOn(t *testing.T) {
	p := pair{bytesOf(32, 11), bytes.Repeat([]byte{0xff}, 12)}
	for _, blocks := range []int{253, 254, 255, 256, 257, 510, 511, 512, 65536} {
		for _, more := range []int{-1, 0, 1} {
			if blocks > 1000 && more != 1 {
				continue
			}
			b := bytesOf(16*blocks+more, 12)
			checkSeal(t, p, bytesOf(20, 13), b)
		}
	}
	const size = 16 * 300
	got, err := Seal(p.key, p.nonce, nil, make([]byte, size))
	if want := wantRow(t, p.key, p.nonce, size); err != nil || len(got) != size+16 || !bytes.Equal(got[:size], want) {
		t.Errorf("noughts, sealed, aren't the row: %v", err)
	}
}

func TestCodesOfTheCounter(t *testing.T) {
	for _, p := range pairs() {
		for _, n := range []uint32{1, 2, 3, 254, 255, 256, 257, 65535, 65536, 65537, 1 << 20, 1<<20 + 1} {
			got, err := counted(p.key, p.nonce, int(n))
			if want := counterCode(t, p.key, p.nonce, n); err != nil || !bytes.Equal(got[:], want) {
				t.Errorf("the counter's block %d: %x, %v; want %x", n, got, err, want)
			}
		}
	}
}

func TestManySeals(t *testing.T) {
	r := rand.New(rand.NewSource(11))
	some := func(n int) []byte {
		b := make([]byte, n)
		r.Read(b)
		return b
	}
	for range 500 {
		p := pair{some(32), some(12)}
		aad, b := some(r.Intn(100)), some(r.Intn(200))
		checkSeal(t, p, aad, b)
		checkOpen(t, p, aad, wantSeal(t, p.key, p.nonce, aad, b), b)
	}
}

func TestNilAndNoneAreOne(t *testing.T) {
	for _, p := range pairs() {
		for _, b := range inputs(14) {
			want := wantSeal(t, p.key, p.nonce, nil, b)
			checkSeal(t, p, []byte{}, b)
			checkOpen(t, p, nil, want, b)
			checkOpen(t, p, []byte{}, want, b)
		}
		checkSeal(t, p, nil, nil)
		checkSeal(t, p, nil, []byte{})
	}
}

// P11.3, P11.5

func TestOpensWhatTheLibrarySealed(t *testing.T) {
	for _, p := range pairs() {
		for _, aad := range inputs(15) {
			for _, b := range inputs(16) {
				checkOpen(t, p, aad, wantSeal(t, p.key, p.nonce, aad, b), b)
			}
		}
	}
	p, b := pairs()[2], bytesOf(16*300+5, 17)
	checkOpen(t, p, nil, wantSeal(t, p.key, p.nonce, nil, b), b)
}

func TestOpensWhatWasSealed(t *testing.T) {
	for _, p := range pairs() {
		for _, aad := range inputs(18) {
			for _, b := range inputs(19) {
				sealed, err := Seal(p.key, p.nonce, aad, b)
				if err != nil || len(sealed) != len(b)+16 {
					t.Fatalf("%d and %d bytes: sealed %d, %v", len(aad), len(b), len(sealed), err)
				}
				checkOpen(t, p, aad, sealed, b)
			}
		}
	}
}

func TestEachBitOfTheTagCounts(t *testing.T) {
	for _, p := range pairs() {
		for _, n := range lengthsNamed() {
			for _, m := range lengthsNamed() {
				aad, b := bytesOf(n, 20), bytesOf(m, 21)
				sealed := wantSeal(t, p.key, p.nonce, aad, b)
				for bit := 8 * m; bit < 8*len(sealed); bit++ {
					got, err := Open(p.key, p.nonce, aad, turned(sealed, bit))
					checkRefused(t, "a tag with a bit turned", got, err, api.ErrTag)
				}
			}
		}
	}
}

// otherTags are such as a careless look takes for the right one: their bytes' sum is the same,
// or their beginning or end, or they are another thing's tag.
func otherTags(t *testing.T, p pair, aad, hidden []byte) [][]byte {
	t.Helper()
	right := wantTag(t, p.key, p.nonce, aad, hidden)
	backward := slices.Clone(right)
	slices.Reverse(backward)
	all := [][]byte{
		backward, make([]byte, 16), bytes.Repeat([]byte{0xff}, 16), xor(right, bytes.Repeat([]byte{0xff}, 16)),
		slices.Concat(right[8:], right[:8]), slices.Concat(right[1:], right[:1]),
		slices.Concat(right[:15], []byte{^right[15]}), slices.Concat([]byte{^right[0]}, right[1:]),
		xor(right, counterCode(t, p.key, p.nonce, 1)), counterCode(t, p.key, p.nonce, 1), counterCode(t, p.key, p.nonce, 0),
		wantTag(t, p.key, p.nonce, hidden, aad), wantTag(t, p.key, p.nonce, nil, slices.Concat(aad, hidden)),
		wantTag(t, p.key, p.nonce, aad, xor(hidden, wantRow(t, p.key, p.nonce, len(hidden)))),
	}
	for i := range 16 {
		for j := range i {
			all = append(all, turned(turned(right, 8*i+3), 8*j+3))
		}
	}
	return slices.DeleteFunc(all, func(tag []byte) bool { return bytes.Equal(tag, right) })
}

func TestOtherTagsAreRefused(t *testing.T) {
	for _, p := range pairs() {
		for _, n := range lengthsNamed() {
			for _, m := range lengthsNamed() {
				aad, hidden := bytesOf(n, 22), bytesOf(m, 23)
				for _, tag := range otherTags(t, p, aad, hidden) {
					got, err := Open(p.key, p.nonce, aad, slices.Concat(hidden, tag))
					checkRefused(t, "another tag", got, err, api.ErrTag)
				}
			}
		}
	}
}

func TestManyOtherTagsAreRefused(t *testing.T) {
	p, aad, hidden := pairs()[2], bytesOf(17, 24), bytesOf(33, 25)
	right, r := wantTag(t, p.key, p.nonce, aad, hidden), rand.New(rand.NewSource(12))
	for range 2000 {
		tag := make([]byte, 16)
		r.Read(tag)
		if bytes.Equal(tag, right) {
			continue
		}
		got, err := Open(p.key, p.nonce, aad, slices.Concat(hidden, tag))
		checkRefused(t, "another tag", got, err, api.ErrTag)
	}
}

func TestEachBitOfWhatIsHiddenCounts(t *testing.T) {
	for _, p := range pairs() {
		for _, m := range lengthsNamed() {
			aad := bytesOf(5, 26)
			sealed := wantSeal(t, p.key, p.nonce, aad, bytesOf(m, 27))
			for bit := range 8 * m {
				got, err := Open(p.key, p.nonce, aad, turned(sealed, bit))
				checkRefused(t, "hidden bytes with a bit turned", got, err, api.ErrTag)
			}
		}
	}
}

func TestEachBitOfWhatGoesAlongCounts(t *testing.T) {
	for _, p := range pairs() {
		for _, n := range lengthsNamed() {
			aad := bytesOf(n, 28)
			sealed := wantSeal(t, p.key, p.nonce, aad, bytesOf(21, 29))
			for bit := range 8 * n {
				got, err := Open(p.key, p.nonce, turned(aad, bit), sealed)
				checkRefused(t, "aad with a bit turned", got, err, api.ErrTag)
			}
		}
	}
}

func TestEachBitOfTheKeyAndTheNonceCounts(t *testing.T) {
	for _, p := range pairs() {
		for _, m := range []int{0, 1, 33} {
			aad := bytesOf(m, 30)
			sealed := wantSeal(t, p.key, p.nonce, aad, bytesOf(m, 31))
			for bit := range 8 * 12 {
				got, err := Open(p.key, turned(p.nonce, bit), aad, sealed)
				checkRefused(t, "a nonce with a bit turned", got, err, api.ErrTag)
			}
			for bit := range 8 * 32 {
				got, err := Open(turned(p.key, bit), p.nonce, aad, sealed)
				checkRefused(t, "a key with a bit turned", got, err, api.ErrTag)
			}
		}
	}
}

// Where aad ends and the hidden bytes begin counts too, and noughts behind either.
func TestWhereAPartEndsCounts(t *testing.T) {
	p, all := pairs()[2], bytesOf(48, 32)
	for cut := range len(all) + 1 {
		tag := wantTag(t, p.key, p.nonce, all[:cut], all[cut:])
		for other := range len(all) + 1 {
			if other == cut {
				continue
			}
			got, err := Open(p.key, p.nonce, all[:other], slices.Concat(all[other:], tag))
			checkRefused(t, "the same bytes, cut elsewhere", got, err, api.ErrTag)
		}
	}
	for _, n := range lengthsNamed() {
		hidden := bytesOf(n, 33)
		sealed := slices.Concat(hidden, wantTag(t, p.key, p.nonce, hidden, hidden))
		got, err := Open(p.key, p.nonce, append(bytesOf(n, 33), 0), sealed)
		checkRefused(t, "a nought more behind aad", got, err, api.ErrTag)
		got, err = Open(p.key, p.nonce, hidden, slices.Concat(hidden, []byte{0}, sealed[n:]))
		checkRefused(t, "a nought more behind what is hidden", got, err, api.ErrTag)
	}
}

func TestPiecesOfASeal(t *testing.T) {
	p, aad := pairs()[2], bytesOf(7, 34)
	for _, m := range lengthsNamed() {
		sealed := wantSeal(t, p.key, p.nonce, aad, bytesOf(m, 35))
		for n := range sealed {
			want := api.ErrTag
			if n < 16 {
				want = api.ErrShort
			}
			got, err := Open(p.key, p.nonce, aad, sealed[:n])
			checkRefused(t, "the beginning of a seal", got, err, want)
			got, err = Open(p.key, p.nonce, aad, sealed[len(sealed)-n:])
			checkRefused(t, "the end of a seal", got, err, want)
		}
		got, err := Open(p.key, p.nonce, aad, append(slices.Clone(sealed), 0))
		checkRefused(t, "a seal with a byte behind", got, err, api.ErrTag)
		got, err = Open(p.key, p.nonce, aad, append([]byte{0}, sealed...))
		checkRefused(t, "a seal with a byte ahead", got, err, api.ErrTag)
	}
}

func TestShortSeals(t *testing.T) {
	for _, p := range pairs() {
		for _, fill := range []byte{0, 0xff} {
			for n := range 16 {
				got, err := Open(p.key, p.nonce, nil, bytes.Repeat([]byte{fill}, n))
				checkRefused(t, "fewer than 16 bytes", got, err, api.ErrShort)
			}
			for _, n := range []int{16, 17} {
				got, err := Open(p.key, p.nonce, nil, bytes.Repeat([]byte{fill}, n))
				checkRefused(t, "16 or 17 bytes", got, err, api.ErrTag)
			}
		}
		got, err := Open(p.key, p.nonce, nil, nil)
		checkRefused(t, "nil", got, err, api.ErrShort)
		// There is room behind for a tag, and the right one stands there: it doesn't count.
		sealed := wantSeal(t, p.key, p.nonce, nil, nil)
		got, err = Open(p.key, p.nonce, nil, sealed[:15])
		checkRefused(t, "15 bytes of a tag, the last one behind", got, err, api.ErrShort)
		checkOpen(t, p, nil, sealed, nil)
		checkOpen(t, p, nil, wantSeal(t, p.key, p.nonce, nil, []byte{9}), []byte{9})
	}
}
