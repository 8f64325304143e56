package mac

import (
	"bytes"
	"crypto/hkdf"
	"crypto/hmac"
	"crypto/sha512"
	"encoding/hex"
	"math"
	"math/rand"
	"slices"
	"strings"
	"testing"

	"escutcheon/api"
)

// bytesOf are n bytes of which no two near each other are the same; another seed makes others.
func bytesOf(n, seed int) []byte {
	b := make([]byte, n)
	for i := range b {
		b[i] = byte(i*151 + i/256*7 + seed*29 + 1)
	}
	return b
}

// keyLengths are those that the issue names, and others.
func keyLengths() []int {
	return []int{0, 1, 2, 4, 20, 47, 48, 49, 64, 126, 127, 128, 129, 130, 131, 200, 255, 256, 257, 700, 5000}
}

// textLengths lie on both sides of every length at which a digest needs another block.
func textLengths() []int {
	return []int{0, 1, 2, 28, 47, 48, 63, 64, 110, 111, 112, 113, 127, 128, 129, 239, 240, 256, 500, 3000, 10007}
}

// expandLengths are those that the issue names, and others.
func expandLengths() []int {
	return []int{0, 1, 2, 32, 47, 48, 49, 95, 96, 97, 100, 143, 144, 145, 500, 6000, 12191, 12192, 12193, 12239, 12240}
}

// What the chapter says, told another way: by the library.

func wantSum(parts ...[]byte) []byte {
	d := sha512.Sum384(bytes.Join(parts, nil))
	return d[:]
}

func wantHmac(key, b []byte) []byte {
	d := hmac.New(sha512.New384, key)
	d.Write(b)
	return d.Sum(nil)
}

func wantExpand(t *testing.T, prk, info []byte, n int) []byte {
	t.Helper()
	b, err := hkdf.Expand(sha512.New384, prk, string(info), n)
	if err != nil {
		t.Fatal(err)
	}
	return b
}

func fromHex(t *testing.T, told string) []byte {
	t.Helper()
	b, err := hex.DecodeString(strings.ReplaceAll(told, " ", ""))
	if err != nil {
		t.Fatal(err)
	}
	return b
}

// P8.1

func TestHmacWrittenOut(t *testing.T) {
	// The first is the chapter's; the others are RFC 4231's.
	for _, c := range []struct{ key, text, want string }{
		{
			"Jefe", "what do ya want for nothing?",
			"af45d2e3 76484031 617f78d2 b58a6b1b 9c7ef464 f5a01b47 e42ec373 6322445e 8e2240ca 5e69e2c7 8b3239ec fab21649",
		},
		{
			strings.Repeat("\x0b", 20), "Hi There",
			"afd03944d84895626b0825f4ab46907f15f9dadbe4101ec682aa034c7cebc59cfaea9ea9076ede7f4af152e8b2fa9cb6",
		},
		{
			strings.Repeat("\xaa", 20), strings.Repeat("\xdd", 50),
			"88062608d3e6ad8a0aa2ace014c8a86f0aa635d947ac9febe83ef4e55966144b2a5ab39dc13814b94e3ab6e101a34f27",
		},
		{
			strings.Repeat("\xaa", 131), "Test Using Larger Than Block-Size Key - Hash Key First",
			"4ece084485813e9088d2c63a041bc5b44f9ef1012a2b588f3cd11f05033ac4c60c2ef6ab4030fe8296248df163f44952",
		},
	} {
		if got := Hmac([]byte(c.key), []byte(c.text)); !bytes.Equal(got, fromHex(t, c.want)) {
			t.Errorf("Hmac(%q, %q) = %x; want %s", c.key, c.text, got, c.want)
		}
	}
}

func TestHmacAtAllLengths(t *testing.T) {
	for _, k := range keyLengths() {
		for _, n := range textLengths() {
			key, b := bytesOf(k, 1), bytesOf(n, 2)
			if got, want := Hmac(key, b), wantHmac(key, b); !bytes.Equal(got, want) {
				t.Errorf("Hmac of a key of %d bytes and %d bytes = %x; want %x", k, n, got, want)
			}
		}
	}
}

func TestHmacOfEveryKeyLength(t *testing.T) {
	b := []byte("text")
	for k := range 300 {
		for _, key := range [][]byte{bytesOf(k, 3), make([]byte, k), bytes.Repeat([]byte{0xff}, k)} {
			if got, want := Hmac(key, b), wantHmac(key, b); !bytes.Equal(got, want) {
				t.Errorf("Hmac(%x, %q) = %x; want %x", key, b, got, want)
			}
		}
	}
}

func TestHmacByItsWords(t *testing.T) {
	for _, k := range keyLengths() {
		for _, n := range []int{0, 1, 100, 300} {
			key, b := bytesOf(k, 4), bytesOf(n, 5)
			short := key
			if k > 128 {
				short = wantSum(key)
			}
			var for5c, for36 []byte
			for i := range 128 {
				var at byte // noughts behind the key
				if i < len(short) {
					at = short[i]
				}
				for5c = append(for5c, at^0x5c)
				for36 = append(for36, at^0x36)
			}
			want := wantSum(for5c, wantSum(for36, b))
			if got := Hmac(key, b); !bytes.Equal(got, want) {
				t.Errorf("Hmac of a key of %d bytes and %d bytes = %x; want %x", k, n, got, want)
			}
		}
	}
}

func TestHmacOfManyBytes(t *testing.T) {
	r := rand.New(rand.NewSource(8))
	for range 200 {
		key, b := make([]byte, r.Intn(400)), make([]byte, r.Intn(3000))
		r.Read(key)
		r.Read(b)
		if got, want := Hmac(key, b), wantHmac(key, b); !bytes.Equal(got, want) {
			t.Errorf("Hmac(%x, %x) = %x; want %x", key, b, got, want)
		}
	}
}

func TestNoughtsBehindAKey(t *testing.T) {
	b := bytesOf(60, 6)
	key := bytesOf(48, 7)
	filled := append(slices.Clone(key), make([]byte, 80)...)
	if !bytes.Equal(Hmac(key, b), Hmac(filled, b)) {
		t.Error("noughts up to 128 bytes make another digest")
	}
	if bytes.Equal(Hmac(key, b), Hmac(append(filled, 0), b)) {
		t.Error("one nought above 128 bytes makes no other digest")
	}
}

func TestNoKeyAndNoText(t *testing.T) {
	want := wantHmac(nil, nil)
	for _, key := range [][]byte{nil, {}} {
		for _, b := range [][]byte{nil, {}} {
			if got := Hmac(key, b); !bytes.Equal(got, want) {
				t.Errorf("Hmac(%v, %v) = %x; want %x", key, b, got, want)
			}
			if got := Extract(key, b); !bytes.Equal(got, want) {
				t.Errorf("Extract(%v, %v) = %x; want %x", key, b, got, want)
			}
		}
	}
}

// P8.2

func TestExtractIsHmac(t *testing.T) {
	for _, s := range keyLengths() {
		for _, n := range textLengths() {
			salt, secret := bytesOf(s, 8), bytesOf(n, 9)
			got := Extract(salt, secret)
			if want := wantHmac(salt, secret); !bytes.Equal(got, want) {
				t.Errorf("Extract of %d and %d bytes = %x; want %x", s, n, got, want)
			}
			if !bytes.Equal(got, Hmac(salt, secret)) {
				t.Errorf("Extract of %d and %d bytes isn't their Hmac", s, n)
			}
		}
	}
}

func TestExtractAsTheLibrary(t *testing.T) {
	secret := bytesOf(77, 10)
	for _, salt := range [][]byte{nil, {}, bytesOf(13, 11), bytesOf(48, 12), bytesOf(200, 13)} {
		want, err := hkdf.Extract(sha512.New384, secret, salt)
		if err != nil {
			t.Fatal(err)
		}
		if got := Extract(salt, secret); !bytes.Equal(got, want) {
			t.Errorf("Extract(%x, %x) = %x; want %x", salt, secret, got, want)
		}
	}
}

func TestExpandAtAllLengths(t *testing.T) {
	for _, prk := range [][]byte{nil, bytesOf(1, 14), bytesOf(48, 15), bytesOf(128, 16), bytesOf(129, 17), bytesOf(3000, 18)} {
		for _, info := range [][]byte{nil, {}, []byte("i"), bytesOf(100, 19), bytesOf(700, 20)} {
			for _, n := range expandLengths() {
				got, err := Expand(prk, info, n)
				if want := wantExpand(t, prk, info, n); err != nil || !bytes.Equal(got, want) {
					t.Errorf("Expand of %d and %d bytes, %d: %x, %v; want %x", len(prk), len(info), n, got, err, want)
				}
			}
		}
	}
}

func TestExpandByItsWords(t *testing.T) {
	prk, info := bytesOf(48, 21), []byte("what it is for")
	var all, last []byte
	for i := 1; i <= 255; i++ {
		last = wantHmac(prk, bytes.Join([][]byte{last, info, {byte(i)}}, nil))
		all = append(all, last...)
	}
	if len(all) != 12240 {
		t.Fatalf("%d bytes in all", len(all))
	}
	for _, n := range expandLengths() {
		if got, err := Expand(prk, info, n); err != nil || !bytes.Equal(got, all[:n]) {
			t.Errorf("Expand of %d bytes: %x, %v; want %x", n, got, err, all[:n])
		}
	}
}

func TestExpandOfWhatMayNotBe(t *testing.T) {
	for _, n := range []int{
		-1, -2, -48, -12240, math.MinInt32, math.MinInt, math.MinInt + 1,
		12241, 12242, 12288, 1 << 16, math.MaxInt32, math.MaxInt - 1, math.MaxInt,
	} {
		for _, prk := range [][]byte{nil, bytesOf(48, 22), bytesOf(200, 23)} {
			for _, info := range [][]byte{nil, []byte("i")} {
				if b, err := Expand(prk, info, n); b != nil || err != api.ErrArg {
					t.Errorf("Expand(%x, %x, %d) = %x, %v", prk, info, n, b, err)
				}
			}
		}
	}
}

// P8.3

func TestSameBytes(t *testing.T) {
	for n := range 300 {
		b := bytesOf(n, 24)
		if !Same(b, b) || !Same(b, slices.Clone(b)) {
			t.Errorf("%d bytes aren't the same as themselves", n)
		}
	}
	for _, a := range [][]byte{nil, {}} {
		for _, b := range [][]byte{nil, {}} {
			if !Same(a, b) {
				t.Errorf("Same(%v, %v) is false", a, b)
			}
		}
	}
}

func TestOneBitIsNotTheSame(t *testing.T) {
	for _, n := range []int{1, 2, 3, 16, 48, 49, 300} {
		a := bytesOf(n, 25)
		for at := range n {
			for bit := range 8 {
				b := slices.Clone(a)
				b[at] ^= 1 << bit
				if Same(a, b) || Same(b, a) {
					t.Errorf("%d bytes: bit %d of byte %d makes no difference", n, bit, at)
				}
			}
		}
	}
}

// Differences that a sum, or xor, would weigh up against each other.
func TestManyDifferencesAreNotTheSame(t *testing.T) {
	a := make([]byte, 256)
	for _, step := range []byte{1, 2, 0x10, 0x80, 0xff} {
		for many := 2; many <= 256; many++ {
			b := slices.Clone(a)
			for i := range many {
				b[i] ^= step
			}
			if Same(a, b) || Same(b, a) {
				t.Errorf("%d bytes xor %02x make no difference", many, step)
			}
		}
	}
	if Same([]byte{1, 2, 3}, []byte{3, 2, 1}) || Same([]byte{1, 255}, []byte{0, 0}) {
		t.Error("other bytes of one sum are told as the same")
	}
}

func TestUnlikeLengthsAreNotTheSame(t *testing.T) {
	long := bytesOf(300, 26)
	noughts := make([]byte, 300)
	for _, whole := range [][]byte{long, noughts} {
		for n := range len(whole) {
			if begin := whole[:n]; Same(begin, whole) || Same(whole, begin) {
				t.Errorf("%d bytes and %d that begin with them are told as the same", n, len(whole))
			}
			if next := whole[:n+1]; Same(whole[:n], next) || Same(next, whole[:n]) {
				t.Errorf("%d bytes and one more are told as the same", n)
			}
		}
	}
	if Same(nil, []byte{0}) || Same([]byte{0}, nil) {
		t.Error("no bytes and one are told as the same")
	}
}

// P8.4

// within lays n bytes into the midst of others, with room behind that isn't theirs.
func within(n, seed int) (all, b []byte) {
	all = bytesOf(n+600, seed)
	return all, all[200 : 200+n]
}

func TestArgumentsStay(t *testing.T) {
	for _, k := range keyLengths() {
		for _, n := range []int{0, 1, 48, 128, 129, 1000} {
			all1, one := within(k, 27)
			all2, two := within(n, 28)
			was1, was2 := slices.Clone(all1), slices.Clone(all2)
			answers := [][]byte{Hmac(one, two), Extract(one, two)}
			for _, length := range []int{0, 1, 48, 49, 200} {
				b, err := Expand(one, two, length)
				if err != nil {
					t.Fatal(err)
				}
				answers = append(answers, b)
			}
			Same(one, two)
			Same(one, slices.Clone(one))
			for _, b := range answers {
				for i := range b {
					b[i] ^= 0xff
				}
			}
			if !bytes.Equal(all1, was1) || !bytes.Equal(all2, was2) {
				t.Fatalf("%d and %d bytes: what is handed in has changed, or what lies around it", k, n)
			}
		}
	}
}

func TestWrongArgumentsStay(t *testing.T) {
	all, b := within(48, 29)
	was := slices.Clone(all)
	for _, n := range []int{-1, 12241} {
		if _, err := Expand(b, b, n); err != api.ErrArg {
			t.Errorf("Expand of %d bytes: %v", n, err)
		}
	}
	if !bytes.Equal(all, was) {
		t.Error("what is handed in has changed, or what lies around it")
	}
}

func TestArgumentsThatOverlap(t *testing.T) {
	all := bytesOf(400, 30)
	was := slices.Clone(all)
	for _, c := range []struct{ key, b []byte }{
		{all[:100], all[50:200]},
		{all[:0], all[:300]},
		{all[:128], all[128:]},
		{all[:300], all[:300]},
	} {
		if got, want := Hmac(c.key, c.b), wantHmac(c.key, c.b); !bytes.Equal(got, want) {
			t.Errorf("Hmac of %d and %d bytes = %x; want %x", len(c.key), len(c.b), got, want)
		}
		got, err := Expand(c.key, c.b, 200)
		if want := wantExpand(t, c.key, c.b, 200); err != nil || !bytes.Equal(got, want) {
			t.Errorf("Expand of %d and %d bytes = %x, %v; want %x", len(c.key), len(c.b), got, err, want)
		}
	}
	if !bytes.Equal(all, was) {
		t.Error("what is handed in has changed")
	}
}

// calls are all that answer bytes, each of a key and other bytes.
func calls(t *testing.T) []func(key, b []byte) []byte {
	all := []func(key, b []byte) []byte{Hmac, Extract}
	for _, n := range []int{1, 47, 48, 49, 96, 97, 12240} {
		all = append(all, func(key, b []byte) []byte {
			out, err := Expand(key, b, n)
			if err != nil {
				t.Fatal(err)
			}
			return out
		})
	}
	return all
}

func TestAnswersAreNewMemory(t *testing.T) {
	for place, call := range calls(t) {
		for _, k := range []int{0, 48, 128, 129} {
			key, b := bytesOf(k, 31), bytesOf(48, 32)
			first := call(key, b)
			want := slices.Clone(first)
			second := call(key, b)
			for i := range first {
				first[i] ^= 0xff
			}
			if !bytes.Equal(second, want) {
				t.Errorf("call %d, a key of %d bytes: two answers share memory", place, k)
			}
			if third := call(key, b); !bytes.Equal(third, want) {
				t.Errorf("call %d, a key of %d bytes: then %x; want %x", place, k, third, want)
			}
			// What was handed in is filled anew: an answer that looked on would follow.
			clear(key)
			clear(b)
			if !bytes.Equal(second, want) {
				t.Errorf("call %d, a key of %d bytes: an answer shares memory with an argument", place, k)
			}
		}
	}
}

func TestArgumentsAreNotKept(t *testing.T) {
	for place, call := range calls(t) {
		for _, k := range []int{1, 48, 128, 129} {
			key, b := bytesOf(k, 33), bytesOf(48, 34)
			call(key, b)
			// The same memory with other bytes must be as those bytes are.
			copy(key, bytesOf(k, 35))
			copy(b, bytesOf(48, 36))
			if got, want := call(key, b), call(bytesOf(k, 35), bytesOf(48, 36)); !bytes.Equal(got, want) {
				t.Errorf("call %d, a key of %d bytes: %x; want %x", place, k, got, want)
			}
		}
	}
}

func TestNothingLiesBehindAnExpand(t *testing.T) {
	for _, n := range expandLengths() {
		b, err := Expand(bytesOf(48, 37), []byte("i"), n)
		if err != nil || len(b) != n || cap(b) != n {
			t.Errorf("Expand of %d bytes has %d, with room for %d, %v", n, len(b), cap(b), err)
		}
	}
}

// P8.5

func TestLongKeyIsAsItsDigest(t *testing.T) {
	for _, k := range []int{129, 130, 131, 176, 255, 256, 257, 1000, 5000} {
		key := bytesOf(k, 38)
		digest := wantSum(key)
		for _, n := range []int{0, 1, 100, 2000} {
			b := bytesOf(n, 39)
			if !bytes.Equal(Hmac(key, b), Hmac(digest, b)) {
				t.Errorf("Hmac of a key of %d bytes isn't as that of its digest", k)
			}
			if !bytes.Equal(Extract(key, b), Extract(digest, b)) {
				t.Errorf("Extract of a salt of %d bytes isn't as that of its digest", k)
			}
			long, err1 := Expand(key, b, 150)
			short, err2 := Expand(digest, b, 150)
			if err1 != nil || err2 != nil || !bytes.Equal(long, short) {
				t.Errorf("Expand of a key of %d bytes isn't as that of its digest: %v, %v", k, err1, err2)
			}
		}
	}
}

func TestShortKeyIsNotAsItsDigest(t *testing.T) {
	b := bytesOf(100, 40)
	for _, k := range []int{0, 1, 48, 127, 128} {
		key := bytesOf(k, 41)
		if bytes.Equal(Hmac(key, b), Hmac(wantSum(key), b)) {
			t.Errorf("Hmac of a key of %d bytes is as that of its digest", k)
		}
	}
}

func TestFewerBytesBeginMore(t *testing.T) {
	for _, prk := range [][]byte{nil, bytesOf(48, 42), bytesOf(300, 43)} {
		info := bytesOf(20, 44)
		most, err := Expand(prk, info, 12240)
		if err != nil {
			t.Fatal(err)
		}
		lengths := expandLengths()
		for n := range 200 {
			lengths = append(lengths, n)
		}
		for _, n := range lengths {
			if b, err := Expand(prk, info, n); err != nil || !bytes.Equal(b, most[:n]) {
				t.Errorf("a key of %d bytes: Expand of %d bytes = %x, %v; want %x", len(prk), n, b, err, most[:n])
			}
		}
	}
}
