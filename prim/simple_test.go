package prim

import (
	"bytes"
	"encoding/asn1"
	"math/bits"
	"math/rand"
	"slices"
	"strings"
	"testing"

	"escutcheon/api"
)

// P13.4

// wantBits tells whether a body is one of bits, by the noughts at its end.
func wantBits(body []byte) bool {
	switch len(body) {
	case 0:
		return false
	case 1:
		return body[0] == 0
	}
	return body[0] < 8 && bits.TrailingZeros8(body[len(body)-1]) >= int(body[0])
}

func checkBits(t *testing.T, body, want []byte, unused int) {
	t.Helper()
	if got, n, err := Bits(body); err != nil || !bytes.Equal(got, want) || n != unused {
		t.Errorf("Bits(%x) = %x, %d, %v; want %x, %d", body, got, n, err, want, unused)
	}
}

func checkBitsRefused(t *testing.T, body []byte) {
	t.Helper()
	if got, n, err := Bits(body); err != api.ErrForm || len(got) > 0 || n != 0 {
		t.Errorf("Bits(%x) = %x, %d, %v; want ErrForm itself", body, got, n, err)
	}
}

func checkBitsBoth(t *testing.T, body []byte) bool {
	t.Helper()
	if !wantBits(body) {
		checkBitsRefused(t, body)
		return false
	}
	checkBits(t, body, body[1:], int(body[0]))
	return true
}

func TestBitsWrittenOut(t *testing.T) {
	checkBits(t, bytesFrom("03 f8"), []byte{0xf8}, 3) // the chapter's
	checkBitsRefused(t, bytesFrom("03 f1"))           // the chapter's
	checkBits(t, bytesFrom("00"), nil, 0)
	checkBits(t, bytesFrom("00 ff"), []byte{0xff}, 0)
	checkBits(t, bytesFrom("07 80"), []byte{0x80}, 7)
	checkBits(t, bytesFrom("07 00"), []byte{0}, 7)
	checkBits(t, bytesFrom("01 ff fe"), []byte{0xff, 0xfe}, 1)
	checkBits(t, bytesFrom("00 00 00"), []byte{0, 0}, 0)
	checkBits(t, bytesFrom("04 0f f0"), []byte{0x0f, 0xf0}, 4) // only the last byte's bits are asked
	for _, told := range []string{"", "01", "07", "08", "ff", "08 00", "ff 00", "01 01", "07 40", "01 fe ff", "80 00", "09 00 00"} {
		checkBitsRefused(t, bytesFrom(told))
	}
	checkBitsRefused(t, nil)
	checkBitsRefused(t, []byte{})
}

func TestManyBits(t *testing.T) {
	fit := 0
	for first := range 256 {
		checkBitsBoth(t, []byte{byte(first)})
		for last := range 256 {
			for _, ahead := range [][]byte{nil, {0}, {0xff}, {0x55, 0xaa, 0xff}} {
				if checkBitsBoth(t, slices.Concat([]byte{byte(first)}, ahead, []byte{byte(last)})) {
					fit++
				}
			}
		}
	}
	// Of 256 last bytes, 256, 128, .. and 2 end in as many noughts.
	if fit != 4*(512-2) {
		t.Error(fit)
	}
	// Each lowest bit alone, up to the last one that must be 0 and the first that need not be.
	for unused := range 8 {
		for bit := range 8 {
			body := []byte{byte(unused), 0xff, 1 << bit}
			if bit < unused {
				checkBitsRefused(t, body)
			} else {
				checkBits(t, body, body[1:], unused)
			}
		}
	}
	for _, n := range []int{1, 63, 64, 65, 97, 128, 1000, 1 << 20} {
		b := bytesOf(n, 0x10)
		checkBits(t, append([]byte{0}, b...), b, 0)
		b[n-1] = 0x40
		checkBits(t, append([]byte{6}, b...), b, 6)
		checkBitsRefused(t, append([]byte{7}, b...))
		checkBitsRefused(t, append([]byte{8}, b...))
	}
}

// What the library writes of bits is read as them.
func TestBitsOfTheLibrary(t *testing.T) {
	r := rand.New(rand.NewSource(5))
	for n := range 900 {
		b := make([]byte, (n+7)/8)
		r.Read(b)
		unused := len(b)*8 - n
		if unused > 0 {
			b[len(b)-1] = b[len(b)-1] >> unused << unused
		}
		told, err := asn1.Marshal(asn1.BitString{Bytes: b, BitLength: n})
		if err != nil {
			t.Fatal(err)
		}
		checkBits(t, told[len(told)-len(b)-1:], b, unused)
	}
}

func TestTruths(t *testing.T) {
	check := func(body []byte, want bool, code error) {
		t.Helper()
		if got, err := Truth(body); err != code || got != want {
			t.Errorf("Truth(%x) = %t, %v; want %t, %v", body, got, err, want, code)
		}
	}
	check([]byte{0}, false, nil)
	check([]byte{0xff}, true, nil)
	for x := 1; x < 255; x++ {
		check([]byte{byte(x)}, false, api.ErrForm)
	}
	check(nil, false, api.ErrForm)
	check([]byte{}, false, api.ErrForm)
	for _, a := range []byte{0, 1, 0xff} {
		for _, b := range []byte{0, 1, 0xff} {
			check([]byte{a, b}, false, api.ErrForm)
			check([]byte{a, b, a}, false, api.ErrForm)
		}
	}
	check(make([]byte, 1000), false, api.ErrForm)
	check(bytes.Repeat([]byte{0xff}, 1000), false, api.ErrForm)
}

// P13.5

func checkText(t *testing.T, want string) {
	t.Helper()
	if got, err := Text([]byte(want)); err != nil || got != want {
		t.Errorf("Text(%q) = %q, %v", want, got, err)
	}
}

func checkTextRefused(t *testing.T, body string, want api.Code) {
	t.Helper()
	if got, err := Text([]byte(body)); err != want || got != "" {
		t.Errorf("Text(%q) = %q, %v; want error %d itself", body, got, err, want)
	}
}

func TestTexts(t *testing.T) {
	checkText(t, "device 7")
	checkText(t, " ")
	checkText(t, "~")
	checkText(t, " ~ ")
	checkText(t, `"*@\&_`)
	var all []byte
	for x := range 256 {
		one := string([]byte{byte(x)})
		for _, body := range []string{one, one + "ab", "a" + one + "b", "ab" + one, strings.Repeat("a", 63) + one} {
			if x >= 32 && x <= 126 {
				checkText(t, body)
			} else {
				checkTextRefused(t, body, api.ErrForm)
			}
		}
		if x >= 32 && x <= 126 {
			all = append(all, byte(x))
		}
	}
	for n := 1; n <= 64; n++ {
		checkText(t, strings.Repeat("x", n))
		checkText(t, string(all[:n]))
		checkText(t, string(all[len(all)-n:]))
	}
}

func TestTextsRefused(t *testing.T) {
	if got, err := Text(nil); err != api.ErrForm || got != "" {
		t.Error(got, err)
	}
	checkTextRefused(t, "", api.ErrForm)
	for _, body := range []string{"\x00", "\x1f", "\x7f", "\x80", "\xff", "a\n", "\ta", "ä", "…", "a\x00", "\x00\x00"} {
		checkTextRefused(t, body, api.ErrForm)
	}
	for _, n := range []int{65, 66, 127, 128, 1000, 1 << 20} {
		checkTextRefused(t, strings.Repeat("x", n), api.ErrLong)
		// Bytes that may not be in it, too: how long it is is asked first.
		checkTextRefused(t, strings.Repeat("\x1f", n), api.ErrLong)
		checkTextRefused(t, "\x7f"+strings.Repeat("x", n-1), api.ErrLong)
		checkTextRefused(t, strings.Repeat("x", n-1)+"\x00", api.ErrLong)
	}
	checkTextRefused(t, strings.Repeat("x", 63)+"\x1f", api.ErrForm)
}
