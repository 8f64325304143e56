package cert

import (
	"bytes"
	"crypto/elliptic"
	"encoding/hex"
	"math"
	"math/big"
	"math/rand"
	"slices"
	"strings"

	"escutcheon/api"
	"escutcheon/curve"
	"escutcheon/der"
)

// The first and the last seconds of the two ways to tell times.
const (
	firstUTC  = -631152000
	lastUTC   = 2524607999
	firstTime = lastUTC + 1
	lastTime  = 253402300799
)

func bytesFrom(told string) []byte {
	b, err := hex.DecodeString(strings.Join(strings.Fields(told), ""))
	if err != nil {
		panic(err)
	}
	return b
}

// Names.

func common(text string) api.Part { return api.Part{Kind: api.KindCommon, Text: text} }
func org(text string) api.Part    { return api.Part{Kind: api.KindOrg, Text: text} }

// parts is a name of as many parts, of all kinds.
func parts(n int) api.Name {
	var l api.Name
	for i := range n {
		kind := []int{api.KindCountry, api.KindOrg, api.KindUnit, api.KindCommon}[i%4]
		l = append(l, api.Part{Kind: kind, Text: strings.Repeat(string(rune('a'+i%26)), 1+i*9%64)})
	}
	return l
}

// many are as many names, each another one; the first has no parts.
func many(n int) []api.Name {
	var l []api.Name
	for i := range n {
		l = append(l, parts(i%9))
	}
	return l
}

func noNames() []api.Name {
	return []api.Name{
		parts(9), parts(10), parts(300),
		{common("")}, {common("a"), org("")}, {org(strings.Repeat("x", 65))}, {common("\x1f")}, {common("\x7f")}, {common("é")},
		{{Kind: 0, Text: "a"}}, {{Kind: 4, Text: "a"}}, {{Kind: -3, Text: "a"}}, {{Kind: 1<<32 + 3, Text: "a"}},
		{common("a"), {Kind: 9, Text: "b"}}, {{}},
	}
}

// Points.

func timesG(k int64) api.Point {
	x, y := elliptic.P384().ScalarBaseMult(big.NewInt(k).Bytes())
	return api.Point{X: numberOf(x), Y: numberOf(y)}
}

// lowPoint is a point with an X so small that X + P has 384 bits, too.
func lowPoint() api.Point {
	c := elliptic.P384().Params()
	for x := int64(1); ; x++ {
		y := new(big.Int).Exp(big.NewInt(x), big.NewInt(3), nil)
		y.Sub(y, big.NewInt(3*x)).Add(y, c.B).Mod(y, c.P)
		if y.ModSqrt(y, c.P) != nil {
			return api.Point{X: api.U384{uint64(x)}, Y: numberOf(y)}
		}
	}
}

func noKeys() []api.Point {
	g, low := curve.G(), lowPoint()
	other := g
	other.Y[0]++
	turned := api.Point{X: g.Y, Y: g.X}
	beyond := low
	beyond.X = numberOf(new(big.Int).Add(bigOf(low.X), elliptic.P384().Params().P))
	full := api.U384{math.MaxUint64, math.MaxUint64, math.MaxUint64, math.MaxUint64, math.MaxUint64, math.MaxUint64}
	return []api.Point{
		{}, {None: true}, {X: g.X, Y: g.Y, None: true}, other, turned, beyond, {X: g.X}, {Y: g.Y}, {X: full, Y: full}, {X: g.X, None: true},
	}
}

// Identifiers.

func longId(n int) []uint64 {
	return append([]uint64{2, 999}, slices.Repeat([]uint64{1<<32 - 1}, n-2)...)
}

// ids are as many identifiers, each another one.
func ids(n int) [][]uint64 {
	var l [][]uint64
	for i := range n {
		l = append(l, []uint64{1, 3, 6, 1, 4, 1, 4711, uint64(i)})
	}
	return l
}

func noIds() [][]uint64 {
	return [][]uint64{nil, {}, {1}, {3, 1}, {0, 40}, {1, 40}, {2, 1 << 32}, {1, 2, 1 << 32}, {math.MaxUint64, 1}, {1, math.MaxUint64}, longId(17)}
}

// Certificates.

// bare is a certificate that has nothing that it needn't have.
func bare() api.Cert {
	return api.Cert{Serial: []byte{1}, From: 10, To: 20, Key: curve.G(), Path: -1, Usage: -1}
}

// fiveG is made once, as full is made often.
var fiveG = timesG(5)

// full is one that has something of all.
func full() api.Cert {
	return api.Cert{
		Serial:  bytesFrom("80 01 02 03 04 05 06 07 08 09 0a 0b 0c 0d 0e 0f 10 11 12 13"),
		Issuer:  api.Name{{Kind: api.KindCountry, Text: "XY"}, org("an org")},
		Subject: api.Name{org("an org"), {Kind: api.KindUnit, Text: "a unit"}, common("a")},
		From:    1795046400, To: 4102444800,
		Key: fiveG, Ca: true, Path: 2, Usage: api.UseSign | api.UseCert | api.UseCrl,
		Uses:   [][]uint64{{1, 3, 6, 1, 4, 1, 4711, 1}, {2, 5, 29, 37, 0}},
		Permit: []api.Name{{org("an org")}, {}}, Exclude: []api.Name{{org("an org"), common("b")}},
	}
}

func someSig() api.Sig { return api.Sig{R: curve.G().X, S: api.U384{0, 0, 0, 0, 0, 1 << 63}} }

func lastSig() api.Sig {
	n := new(big.Int).Sub(elliptic.P384().Params().N, big.NewInt(1))
	return api.Sig{R: api.U384{1}, S: numberOf(n)}
}

// change makes another certificate of one, whatever that is.
type change struct {
	what string
	do   func(*api.Cert)
}

// rightChanges are those to something that a certificate may have.
func rightChanges() []change {
	other, low := timesG(123456789), lowPoint()
	all := []change{
		{"nothing", func(*api.Cert) {}},
		{"another key", func(c *api.Cert) { c.Key = other }},
		{"the opposite of G", func(c *api.Cert) { c.Key, _ = curve.Neg(curve.G()) }},
		{"a key with a small X", func(c *api.Cert) { c.Key = low }},
		{"the end ahead of the beginning", func(c *api.Cert) { c.From, c.To = 20, 10 }},
		{"no Ca", func(c *api.Cert) { c.Ca, c.Path = false, -1 }},
		{"no Usage", func(c *api.Cert) { c.Usage = -1 }},
		{"the same use twice", func(c *api.Cert) { c.Uses = [][]uint64{{1, 2, 3}, {1, 2, 3}} }},
		{"long identifiers", func(c *api.Cert) {
			c.Uses = [][]uint64{longId(16), {0, 0}, {0, 39}, {1, 39}, {2, 1<<32 - 1}, {2, 47}, {2, 48}}
		}},
		{"identifiers of extensions", func(c *api.Cert) { c.Uses = [][]uint64{{2, 5, 29, 19}, {2, 5, 29, 15}} }},
		{"names of no parts", func(c *api.Cert) { c.Issuer, c.Subject = api.Name{}, nil }},
		{"names of no parts are permitted", func(c *api.Cert) { c.Permit = []api.Name{nil, {}} }},
		{"another body and signature", func(c *api.Cert) { c.Body, c.Sig = []byte{0x1f, 0x80}, api.Sig{} }},
		{"a signature that can't be told", func(c *api.Cert) { c.Body, c.Sig = nil, api.Sig{R: api.U384{0, 0, 0, 0, 0, math.MaxUint64}} }},
	}
	for _, serial := range []string{
		"01", "7f", "80", "ff", "0100", "7fff", "8000", "ff00", "01" + strings.Repeat("00", 18), "80" + strings.Repeat("00", 18),
		"01" + strings.Repeat("00", 19), "7f" + strings.Repeat("ff", 19), "80" + strings.Repeat("00", 19), strings.Repeat("ff", 20),
	} {
		all = append(all, change{"serial " + serial, func(c *api.Cert) { c.Serial = bytesFrom(serial) }})
	}
	for _, at := range []int64{firstUTC, firstUTC + 1, -1, 0, 1, 951782400, lastUTC - 1, lastUTC, firstTime, firstTime + 1, 4107542400, lastTime - 1, lastTime} {
		all = append(all, change{"From", func(c *api.Cert) { c.From = at }}, change{"To", func(c *api.Cert) { c.To = at }})
	}
	for _, path := range []int{-1, 0, 1, 3, 127, 128, 255, 256, 32767, 32768, 1<<31 - 2, 1<<31 - 1} {
		all = append(all, change{"Path", func(c *api.Cert) { c.Ca, c.Path = true, path }})
	}
	for _, usage := range []int{1, 2, 3, 64, 127, 128, 129, 254, 255, 256, 257, 384, 511, 512, 32767, 32768, 32769, 65280, 65534, 65535} {
		all = append(all, change{"Usage", func(c *api.Cert) { c.Usage = usage }})
	}
	for n := range 9 {
		all = append(all,
			change{"Issuer", func(c *api.Cert) { c.Issuer = parts(n) }},
			change{"Subject", func(c *api.Cert) { c.Subject = parts(n) }},
			change{"Uses", func(c *api.Cert) { c.Uses = ids(n) }},
			change{"Permit", func(c *api.Cert) { c.Permit, c.Exclude = many(n), nil }},
			change{"Exclude", func(c *api.Cert) { c.Permit, c.Exclude = nil, many(n) }},
			change{"Permit and Exclude", func(c *api.Cert) { c.Permit, c.Exclude = many(n), many(8-n) }},
			change{"Permit and Exclude alike", func(c *api.Cert) { c.Permit, c.Exclude = many(n), many(n) }},
		)
	}
	return all
}

// wrongChanges are those to something that no certificate may have.
func wrongChanges() []change {
	all := []change{
		{"Odd", func(c *api.Cert) { c.Odd = true }},
		{"no serial", func(c *api.Cert) { c.Serial = nil }},
		{"an empty serial", func(c *api.Cert) { c.Serial = []byte{} }},
	}
	for _, serial := range []string{
		"00", "0001", "0080", "0000", "00" + strings.Repeat("ff", 19), "00" + strings.Repeat("ff", 20), strings.Repeat("00", 20), strings.Repeat("00", 21),
		"01" + strings.Repeat("00", 20), strings.Repeat("7f", 21), strings.Repeat("ff", 21), strings.Repeat("ff", 64), strings.Repeat("ff", 65), strings.Repeat("ff", 300),
	} {
		all = append(all, change{"serial " + serial, func(c *api.Cert) { c.Serial = bytesFrom(serial) }})
	}
	for _, n := range noNames() {
		all = append(all,
			change{"Issuer", func(c *api.Cert) { c.Issuer = n }},
			change{"Subject", func(c *api.Cert) { c.Subject = n }},
			change{"one of Permit", func(c *api.Cert) { c.Permit = []api.Name{n} }},
			change{"the last of Permit", func(c *api.Cert) { c.Permit = append(many(7), n) }},
			change{"one of Exclude", func(c *api.Cert) { c.Exclude = []api.Name{n} }},
			change{"the first of Exclude", func(c *api.Cert) { c.Exclude = append([]api.Name{n}, many(7)...) }},
		)
	}
	for _, at := range []int64{math.MinInt64, firstUTC - 1<<40, firstUTC - 1, lastTime + 1, lastTime + 2, math.MaxInt64} {
		all = append(all, change{"From", func(c *api.Cert) { c.From = at }}, change{"To", func(c *api.Cert) { c.To = at }})
	}
	for _, p := range noKeys() {
		all = append(all, change{"Key", func(c *api.Cert) { c.Key = p }})
	}
	for _, path := range []int{math.MinInt, -1 << 31, -3, -2, 1 << 31, 1<<31 + 1, 1<<32 - 1, 1 << 32, math.MaxInt} {
		all = append(all, change{"Path with Ca", func(c *api.Cert) { c.Ca, c.Path = true, path }})
	}
	for _, path := range []int{math.MinInt, -3, -2, 0, 1, 2, 1<<31 - 1, 1 << 31, 1<<32 - 1, math.MaxInt} {
		all = append(all, change{"Path without Ca", func(c *api.Cert) { c.Ca, c.Path = false, path }})
	}
	for _, usage := range []int{math.MinInt, -1 << 16, -3, -2, 0, 1 << 16, 1<<16 + 1, 1<<32 - 1, 1 << 32, 1<<32 + 1, math.MaxInt} {
		all = append(all, change{"Usage", func(c *api.Cert) { c.Usage = usage }})
	}
	for _, id := range noIds() {
		all = append(all,
			change{"the only use", func(c *api.Cert) { c.Uses = [][]uint64{id} }},
			change{"the first use", func(c *api.Cert) { c.Uses = append([][]uint64{id}, ids(7)...) }},
			change{"the last use", func(c *api.Cert) { c.Uses = append(ids(7), id) }},
		)
	}
	for _, n := range []int{9, 10, 255, 256, 264} {
		all = append(all,
			change{"Uses", func(c *api.Cert) { c.Uses = ids(n) }},
			change{"Permit", func(c *api.Cert) { c.Permit = many(n) }},
			change{"Exclude", func(c *api.Cert) { c.Exclude = many(n) }},
		)
	}
	return all
}

func someOf[T any](r *rand.Rand, l []T) T { return l[r.Intn(len(l))] }

// someCert is a certificate that many things were done to, all of them right.
func someCert(r *rand.Rand, all []change) api.Cert {
	c := someOf(r, []api.Cert{bare(), full()})
	for range r.Intn(8) {
		someOf(r, all).do(&c)
	}
	return c
}

// Elements.

func tree(b []byte) api.Tlv {
	t, err := der.Parse(b)
	if err != nil {
		panic(err)
	}
	return t
}

func written(t api.Tlv) []byte {
	b, err := der.Write(t)
	if err != nil {
		panic(err)
	}
	return b
}

// made is an element of class 0 of others.
func made(tag int, kids ...api.Tlv) api.Tlv { return api.Tlv{Tag: tag, Made: true, Kids: kids} }

// leaf is one of class 0 of bytes.
func leaf(tag int, told string) api.Tlv { return api.Tlv{Tag: tag, Body: bytesFrom(told)} }

// copied is an element with memory of its own.
func copied(t api.Tlv) api.Tlv {
	t.Body = bytes.Clone(t.Body)
	t.Kids = slices.Clone(t.Kids)
	for i, kid := range t.Kids {
		t.Kids[i] = copied(kid)
	}
	return t
}

// places are the ways to all the elements of one, itself included.
func places(t api.Tlv) [][]int {
	l := [][]int{nil}
	for i, kid := range t.Kids {
		for _, way := range places(kid) {
			l = append(l, append([]int{i}, way...))
		}
	}
	return l
}

// changed is an element in which another one stands at a place.
func changed(t api.Tlv, way []int, change func(api.Tlv) api.Tlv) api.Tlv {
	t = copied(t)
	at := &t
	for _, i := range way {
		// An earlier change may have taken the place away.
		if i >= len(at.Kids) {
			return t
		}
		at = &at.Kids[i]
	}
	*at = change(*at)
	return t
}

func replaced(t api.Tlv, way []int, by api.Tlv) api.Tlv {
	return changed(t, way, func(api.Tlv) api.Tlv { return by })
}

// headsTaken is how many classes, tags and makings are taken at a place of an element.
func headsTaken(x api.Tlv, way []int, taken func(api.Tlv) bool) int {
	n := 0
	for class := range 4 {
		for tag := range 31 {
			for _, isMade := range []bool{false, true} {
				other := changed(x, way, func(t api.Tlv) api.Tlv {
					if isMade != t.Made {
						t.Body, t.Kids = nil, nil
					}
					t.Class, t.Tag, t.Made = class, tag, isMade
					return t
				})
				if taken(other) {
					n++
				}
			}
		}
	}
	return n
}

// Places in a certificate's element.
func atVersion() []int    { return []int{0, 0} }
func atSerial() []int     { return []int{0, 1} }
func atIssuer() []int     { return []int{0, 3} }
func atTimes() []int      { return []int{0, 4} }
func atSubject() []int    { return []int{0, 5} }
func atKey() []int        { return []int{0, 6} }
func atExtensions() []int { return []int{0, 7, 0} }
func atSig() []int        { return []int{2} }

// treeOf is the element of a certificate.
func treeOf(c api.Cert) api.Tlv { return tree(wantCert(wantBody(c), someSig())) }

// Extensions.

func yes() api.Tlv { return leaf(1, "ff") }

// ext is an extension: its identifier's body, what tells that it must be understood, if anything does,
// and its bytes.
func ext(id string, content []byte, truth ...api.Tlv) api.Tlv {
	kids := append([]api.Tlv{leaf(6, id)}, truth...)
	return made(16, append(kids, api.Tlv{Tag: 4, Body: content})...)
}

// withExts is a certificate that has just these extensions.
func withExts(all ...api.Tlv) api.Tlv {
	return replaced(treeOf(bare()), atExtensions(), made(16, all...))
}

// elementChanges are those that make another element of each one that they are put to.
func elementChanges() []func(api.Tlv) api.Tlv {
	return []func(api.Tlv) api.Tlv{
		func(t api.Tlv) api.Tlv { t.Class = (t.Class + 1) % 4; return t },
		func(t api.Tlv) api.Tlv { t.Class = (t.Class + 2) % 4; return t },
		func(t api.Tlv) api.Tlv { t.Class = (t.Class + 3) % 4; return t },
		func(t api.Tlv) api.Tlv { t.Tag = (t.Tag + 1) % 31; return t },
		func(t api.Tlv) api.Tlv { t.Tag = (t.Tag + 30) % 31; return t },
		func(t api.Tlv) api.Tlv { return api.Tlv{Class: t.Class, Tag: t.Tag, Made: !t.Made} },
		// Told as bytes, or as an element.
		func(t api.Tlv) api.Tlv {
			if !t.Made {
				return api.Tlv{Class: t.Class, Tag: t.Tag, Made: true, Kids: []api.Tlv{t}}
			}
			return api.Tlv{Class: t.Class, Tag: t.Tag, Body: kidBytes(t)}
		},
		func(t api.Tlv) api.Tlv { return api.Tlv{Class: t.Class, Tag: t.Tag, Made: t.Made} },
		func(api.Tlv) api.Tlv { return leaf(5, "") },
		func(t api.Tlv) api.Tlv { return made(16, t) },
		func(t api.Tlv) api.Tlv { return made(17, t) },
		// One fewer, one more, others.
		func(t api.Tlv) api.Tlv { t.Kids = t.Kids[:max(len(t.Kids)-1, 0)]; return t },
		func(t api.Tlv) api.Tlv { t.Kids = t.Kids[min(len(t.Kids), 1):]; return t },
		func(t api.Tlv) api.Tlv { slices.Reverse(t.Kids); return t },
		func(t api.Tlv) api.Tlv { return more(t, leaf(5, "")) },
		func(t api.Tlv) api.Tlv { return more(t, leaf(1, "ff")) },
		func(t api.Tlv) api.Tlv { return more(t, leaf(2, "02")) },
		func(t api.Tlv) api.Tlv {
			if len(t.Kids) == 0 {
				return t
			}
			return more(t, copied(t.Kids[0]))
		},
		func(t api.Tlv) api.Tlv {
			if len(t.Kids) == 0 {
				return t
			}
			t.Kids = slices.Insert(t.Kids, 0, copied(t.Kids[len(t.Kids)-1]))
			return t
		},
		// Bytes.
		func(t api.Tlv) api.Tlv { return otherBody(t, t.Body[:max(len(t.Body)-1, 0)]) },
		func(t api.Tlv) api.Tlv { return otherBody(t, t.Body[min(len(t.Body), 1):]) },
		func(t api.Tlv) api.Tlv { return otherBody(t, append(t.Body, 0)) },
		func(t api.Tlv) api.Tlv { return otherBody(t, append(t.Body, 1)) },
		func(t api.Tlv) api.Tlv { return otherBody(t, append([]byte{0}, t.Body...)) },
		func(t api.Tlv) api.Tlv { return otherBody(t, append([]byte{0x80}, t.Body...)) },
	}
}

// more is an element with one more kid, if it has kids.
func more(t, kid api.Tlv) api.Tlv {
	if t.Made {
		t.Kids = append(t.Kids, kid)
	}
	return t
}

func otherBody(t api.Tlv, body []byte) api.Tlv {
	if !t.Made {
		t.Body = body
	}
	return t
}

func kidBytes(t api.Tlv) []byte {
	var all []byte
	for _, kid := range t.Kids {
		all = append(all, written(kid)...)
	}
	return all
}
