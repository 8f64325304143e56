package name

import (
	"bytes"
	"crypto/x509/pkix"
	"encoding/asn1"
	"math"
	"math/rand"
	"slices"
	"strings"
	"testing"

	"escutcheon/api"
	"escutcheon/der"
)

// Inputs.

func common(text string) api.Part  { return api.Part{Kind: 3, Text: text} }
func country(text string) api.Part { return api.Part{Kind: 6, Text: text} }
func org(text string) api.Part     { return api.Part{Kind: 10, Text: text} }
func unit(text string) api.Part    { return api.Part{Kind: 11, Text: text} }

func kinds() []int { return []int{3, 6, 10, 11} }

// noKinds are numbers beside the four, those that would be one of them in fewer bits, and the greatest.
func noKinds() []int {
	l := []int{math.MinInt, math.MinInt + 3, math.MaxInt, math.MaxInt - 3, -1 << 31, 1<<31 - 1, 1<<32 - 1}
	for n := -300; n <= 300; n++ {
		if !slices.Contains(kinds(), n) {
			l = append(l, n)
		}
	}
	for _, kind := range kinds() {
		for _, bits := range []int{8, 16, 32, 40, 62} {
			l = append(l, kind+1<<bits, kind-1<<bits)
		}
		l = append(l, kind<<7, kind<<8, kind|math.MinInt)
	}
	return l
}

// ascii are all the bytes that a text may have, cut into as few texts as can be.
func ascii() []string {
	var all []byte
	for x := byte(' '); x <= '~'; x++ {
		all = append(all, x)
	}
	return []string{string(all[:64]), string(all[64:])}
}

func texts() []string {
	return append(ascii(), "a", " ", "~", "  ", "0", "device 7", "\"', \\", "a=b, c=d", strings.Repeat(" ", 63), strings.Repeat("x", 64))
}

func noTexts() []string {
	l := []string{"", strings.Repeat("x", 65), strings.Repeat("x", 66), strings.Repeat("x", 128), strings.Repeat("x", 1<<16),
		strings.Repeat("\x00", 65), "\u00e9", "\u2028", "\x00", "\n", "a\x00", "\x7f", "\xff", "\x80"}
	for x := range 256 {
		if x >= 32 && x <= 126 {
			continue
		}
		for _, around := range [][2]string{{"", ""}, {"a", ""}, {"", "a"}, {"ab", "cd"}, {strings.Repeat("x", 63), ""}, {"", strings.Repeat("x", 63)}} {
			l = append(l, around[0]+string([]byte{byte(x)})+around[1])
		}
	}
	return l
}

// noParts are parts with a kind, a text, or both that may not be.
func noParts() []api.Part {
	var l []api.Part
	for _, kind := range noKinds() {
		l = append(l, api.Part{Kind: kind, Text: "a"}, api.Part{Kind: kind, Text: ""}, api.Part{Kind: kind, Text: strings.Repeat("x", 65)})
	}
	for i, text := range noTexts() {
		l = append(l, api.Part{Kind: kinds()[i%4], Text: text})
	}
	return append(l, api.Part{})
}

// parts are n of them, of all kinds and of several lengths.
func parts(n int) api.Name {
	var l api.Name
	for i := range n {
		l = append(l, api.Part{Kind: kinds()[i%4], Text: strings.Repeat("part ", i%12) + string(rune('a'+i%26))})
	}
	return l
}

func someName(r *rand.Rand) api.Name {
	n := make(api.Name, r.Intn(9))
	for i := range n {
		text := make([]byte, 1+r.Intn(64))
		if r.Intn(2) == 0 {
			text = text[:1]
		}
		for k := range text {
			text[k] = byte(32 + r.Intn(95))
		}
		n[i] = api.Part{Kind: kinds()[r.Intn(4)], Text: string(text)}
	}
	return n
}

// names are right ones, of none to 8 parts.
func names() []api.Name {
	l := []api.Name{nil, {}}
	for n := range 9 {
		l = append(l, parts(n))
	}
	for _, kind := range kinds() {
		for _, text := range texts() {
			l = append(l, api.Name{{Kind: kind, Text: text}}, api.Name{{Kind: kind, Text: text}, {Kind: kind, Text: text}})
		}
	}
	longest := api.Part{Kind: 11, Text: strings.Repeat("~", 64)}
	return append(l, slices.Repeat(api.Name{longest}, 8), slices.Repeat(api.Name{common("a")}, 8))
}

// What the chapter says, told another way: the bytes are the library's.

func wantBytes(n api.Name) []byte {
	row := pkix.RDNSequence{}
	for _, p := range n {
		row = append(row, pkix.RelativeDistinguishedNameSET{{
			Type:  asn1.ObjectIdentifier{2, 5, 4, p.Kind},
			Value: asn1.RawValue{Tag: asn1.TagUTF8String, Bytes: []byte(p.Text)},
		}})
	}
	b, err := asn1.Marshal(row)
	if err != nil {
		panic(err)
	}
	return b
}

// elementOf reads them: an element of a list of any parts, right or not.
func elementOf(n api.Name) api.Tlv {
	t, err := der.Parse(wantBytes(n))
	if err != nil {
		panic(err)
	}
	return t
}

// sameElement tells whether two elements are alike; lists without elements are, nil or not.
func sameElement(a, b api.Tlv) bool {
	return a.Class == b.Class && a.Tag == b.Tag && a.Made == b.Made && bytes.Equal(a.Body, b.Body) &&
		slices.EqualFunc(a.Kids, b.Kids, sameElement)
}

// Checks.

func checkElement(t *testing.T, n api.Name) api.Tlv {
	t.Helper()
	got, err := Element(n)
	if err != nil || !sameElement(got, elementOf(n)) {
		t.Errorf("Element(%#v) = %v, %v", n, got, err)
		return got
	}
	if told, err := der.Write(got); err != nil || !bytes.Equal(told, wantBytes(n)) {
		t.Errorf("Element(%#v) is written as %x, %v", n, told, err)
	}
	return got
}

func checkNoElement(t *testing.T, n api.Name) {
	t.Helper()
	if got, err := Element(n); err != api.ErrArg || !sameElement(got, api.Tlv{}) {
		t.Errorf("Element(%#v) = %v, %v; want ErrArg itself", n, got, err)
	}
}

// P16.1

func TestElementsWrittenOut(t *testing.T) {
	oid := func(kind byte) api.Tlv { return api.Tlv{Tag: 6, Body: []byte{0x55, 4, kind}} }
	text := func(s string) api.Tlv { return api.Tlv{Tag: 12, Body: []byte(s)} }
	list := func(kids ...api.Tlv) api.Tlv { return api.Tlv{Tag: 16, Made: true, Kids: kids} }
	set := func(kids ...api.Tlv) api.Tlv { return api.Tlv{Tag: 17, Made: true, Kids: kids} }
	for _, c := range []struct {
		n    api.Name
		want api.Tlv
	}{
		{nil, list()},
		{api.Name{}, list()},
		{api.Name{{Kind: api.KindCommon, Text: "a"}}, list(set(list(oid(3), text("a"))))}, // the chapter's
		{api.Name{{Kind: api.KindCountry, Text: "b"}}, list(set(list(oid(6), text("b"))))},
		{api.Name{{Kind: api.KindOrg, Text: "c d"}}, list(set(list(oid(10), text("c d"))))},
		{api.Name{{Kind: api.KindUnit, Text: "~"}}, list(set(list(oid(11), text("~"))))},
		{
			api.Name{org("o"), unit("u"), common("c"), country("XY"), common("c")},
			list(set(list(oid(10), text("o"))), set(list(oid(11), text("u"))), set(list(oid(3), text("c"))),
				set(list(oid(6), text("XY"))), set(list(oid(3), text("c")))),
		},
	} {
		if got := checkElement(t, c.n); !sameElement(got, c.want) {
			t.Errorf("Element(%#v) = %v; want %v", c.n, got, c.want)
		}
	}
	told, err := der.Write(checkElement(t, api.Name{common("a")}))
	if err != nil || string(told) != "\x30\x0c\x31\x0a\x30\x08\x06\x03\x55\x04\x03\x0c\x01a" {
		t.Errorf("%x, %v", told, err)
	}
}

func TestEveryName(t *testing.T) {
	for _, n := range names() {
		checkElement(t, n)
	}
	r := rand.New(rand.NewSource(1))
	for range 3000 {
		checkElement(t, someName(r))
	}
}

func TestTooManyParts(t *testing.T) {
	checkElement(t, parts(8))
	for _, n := range []int{9, 10, 16, 17, 100, 255, 256, 257, 264, 1 << 16, 1<<16 + 1} {
		checkNoElement(t, parts(n))
		checkNoElement(t, make(api.Name, n))
		checkNoElement(t, slices.Repeat(api.Name{common("a")}, n))
	}
}

// A part that is none stands alone, and in each place among 2 and 8 others, with other parts amiss behind it.
func TestNoNames(t *testing.T) {
	for _, p := range noParts() {
		checkNoElement(t, api.Name{p})
		checkNoElement(t, api.Name{p, p})
	}
	for _, p := range []api.Part{{}, {Kind: 3}, {Kind: 4, Text: "a"}, {Kind: -3, Text: "a"}, {Kind: 10, Text: "a\x1f"}, {Kind: 11, Text: strings.Repeat("x", 65)}} {
		for _, n := range []int{2, 7, 8, 9} {
			for place := range n {
				l := parts(n)
				l[place] = p
				checkNoElement(t, l)
				l[n-1] = api.Part{Kind: 5, Text: "\x7f"}
				checkNoElement(t, l)
			}
		}
	}
}

func TestEveryByteOfAText(t *testing.T) {
	for x := range 256 {
		for place := range 3 {
			text := []byte("abc")
			text[place] = byte(x)
			n := api.Name{unit(string(text))}
			if x < 32 || x > 126 {
				checkNoElement(t, n)
			} else {
				checkElement(t, n)
			}
		}
	}
}

func TestEveryLengthOfAText(t *testing.T) {
	for length := range 200 {
		n := api.Name{country("XY"), common(strings.Repeat("q", length))}
		if length == 0 || length > 64 {
			checkNoElement(t, n)
		} else {
			checkElement(t, n)
		}
	}
}
