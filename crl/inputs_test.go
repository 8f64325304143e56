package crl

import (
	"bytes"
	"crypto/elliptic"
	"encoding/hex"
	"math"
	"math/big"
	"math/rand"
	"slices"
	"strings"

	"escutcheon/api"
	"escutcheon/der"
)

// The first and the last seconds of the two ways to tell times.
const (
	firstUTC  = -631152000
	lastUTC   = 2524607999
	firstTime = lastUTC + 1
	lastTime  = 253402300799
)

func bytesFrom(told string) []byte {
	b, err := hex.DecodeString(strings.Join(strings.Fields(told), ""))
	if err != nil {
		panic(err)
	}
	return b
}

// Names.

func common(text string) api.Part { return api.Part{Kind: api.KindCommon, Text: text} }
func org(text string) api.Part    { return api.Part{Kind: api.KindOrg, Text: text} }

// parts is a name of as many parts, of all kinds.
func parts(n int) api.Name {
	var l api.Name
	for i := range n {
		kind := []int{api.KindCountry, api.KindOrg, api.KindUnit, api.KindCommon}[i%4]
		l = append(l, api.Part{Kind: kind, Text: strings.Repeat(string(rune('a'+i%26)), 1+i*9%64)})
	}
	return l
}

func noNames() []api.Name {
	return []api.Name{
		parts(9), parts(10), parts(300),
		{common("")}, {common("a"), org("")}, {org(strings.Repeat("x", 65))}, {common("\x1f")}, {common("\x7f")}, {common("é")},
		{{Kind: 0, Text: "a"}}, {{Kind: 4, Text: "a"}}, {{Kind: -3, Text: "a"}}, {{Kind: 1<<32 + 3, Text: "a"}},
		{common("a"), {Kind: 9, Text: "b"}}, {{}},
	}
}

// Times.

func someTimes() []int64 {
	return []int64{firstUTC, firstUTC + 1, -1, 0, 1, 951782400, lastUTC - 1, lastUTC, firstTime, firstTime + 1, 4107542400, lastTime - 1, lastTime}
}

func noTimes() []int64 {
	return []int64{math.MinInt64, firstUTC - 1<<40, firstUTC - 1, lastTime + 1, lastTime + 2, math.MaxInt64}
}

// Serial numbers.

func someSerials() []string {
	return []string{
		"01", "7f", "80", "ff", "0100", "7fff", "8000", "ff00", "01" + strings.Repeat("00", 18), "80" + strings.Repeat("00", 18),
		"01" + strings.Repeat("00", 19), "7f" + strings.Repeat("ff", 19), "80" + strings.Repeat("00", 19), strings.Repeat("ff", 20),
	}
}

func noSerials() []string {
	return []string{
		"", "00", "0001", "0080", "0000", "00" + strings.Repeat("ff", 19), "00" + strings.Repeat("ff", 20), strings.Repeat("00", 20), strings.Repeat("00", 21),
		"01" + strings.Repeat("00", 20), strings.Repeat("7f", 21), strings.Repeat("ff", 21), strings.Repeat("ff", 64), strings.Repeat("ff", 65), strings.Repeat("ff", 300),
	}
}

// Those that are revoked.

// gones are as many, each another one, with serial numbers of all lengths and times of both ways.
func gones(n int) []api.Gone {
	var l []api.Gone
	for i := range n {
		serial := bytes.Repeat([]byte{byte(255 - i)}, 1+i%20)
		l = append(l, api.Gone{Serial: serial, At: int64(i) * 100000001})
	}
	return l
}

// amid is one among others, at a place.
func amid(n, place int, g api.Gone) []api.Gone { return slices.Insert(gones(n), place, g) }

// Lists.

// bare is one that has nothing that it needn't have.
func bare() api.Crl { return api.Crl{This: 10, Next: 20} }

// full is one that has something of all.
func full() api.Crl {
	return api.Crl{
		Issuer: api.Name{{Kind: api.KindCountry, Text: "XY"}, org("an org"), common("a")},
		This:   1795046400, Next: 4102444800,
		Gone: []api.Gone{
			{Serial: []byte{9}, At: 5},
			{Serial: bytesFrom("80 01 02 03 04 05 06 07 08 09 0a 0b 0c 0d 0e 0f 10 11 12 13"), At: 4102444799},
			{Serial: []byte{1, 0}, At: -1},
		},
	}
}

func someSig() api.Sig {
	return api.Sig{R: numberOf(elliptic.P384().Params().Gx), S: api.U384{0, 0, 0, 0, 0, 1 << 63}}
}

func lastSig() api.Sig { return api.Sig{R: api.U384{1}, S: overN(-1)} }

func overN(more int64) api.U384 {
	return numberOf(new(big.Int).Add(elliptic.P384().Params().N, big.NewInt(more)))
}

// change makes another list of one, whatever that is.
type change struct {
	what string
	do   func(*api.Crl)
}

// rightChanges are those to something that a list may have.
func rightChanges() []change {
	all := []change{
		{"nothing", func(*api.Crl) {}},
		{"the end ahead of the beginning", func(c *api.Crl) { c.This, c.Next = 20, 10 }},
		{"the end at the beginning", func(c *api.Crl) { c.Next = c.This }},
		{"an empty name", func(c *api.Crl) { c.Issuer = api.Name{} }},
		{"no name", func(c *api.Crl) { c.Issuer = nil }},
		{"none revoked, nil", func(c *api.Crl) { c.Gone = nil }},
		{"none revoked, empty", func(c *api.Crl) { c.Gone = []api.Gone{} }},
		{"the same twice", func(c *api.Crl) { c.Gone = append(gones(2), gones(2)...) }},
		{"one serial number twice", func(c *api.Crl) { c.Gone = []api.Gone{{Serial: []byte{7}, At: 1}, {Serial: []byte{7}, At: 2}} }},
		{"revoked behind the end", func(c *api.Crl) { c.Gone = []api.Gone{{Serial: []byte{7}, At: lastTime}} }},
		{"another body and signature", func(c *api.Crl) { c.Body, c.Sig = []byte{0x1f, 0x80}, api.Sig{R: api.U384{5}, S: api.U384{6}} }},
		{"a signature that can't be told", func(c *api.Crl) { c.Body, c.Sig = nil, api.Sig{R: api.U384{0, 0, 0, 0, 0, math.MaxUint64}} }},
	}
	for _, told := range someSerials() {
		g := api.Gone{Serial: bytesFrom(told), At: 30}
		all = append(all,
			change{"serial " + told, func(c *api.Crl) { c.Gone = []api.Gone{g} }},
			change{"serial amid others " + told, func(c *api.Crl) { c.Gone = amid(4, 2, g) }},
		)
	}
	for _, at := range someTimes() {
		g := api.Gone{Serial: []byte{0xab, 0xcd}, At: at}
		all = append(all,
			change{"This", func(c *api.Crl) { c.This = at }},
			change{"Next", func(c *api.Crl) { c.Next = at }},
			change{"At", func(c *api.Crl) { c.Gone = []api.Gone{g} }},
			change{"At amid others", func(c *api.Crl) { c.Gone = amid(4, 3, g) }},
		)
	}
	for n := range 9 {
		all = append(all, change{"Issuer", func(c *api.Crl) { c.Issuer = parts(n) }})
	}
	for _, n := range []int{1, 2, 3, 10, 31, 32, 33, 63, 64} {
		all = append(all, change{"Gone", func(c *api.Crl) { c.Gone = gones(n) }})
	}
	return all
}

// wrongChanges are those to something that no list may have.
func wrongChanges() []change {
	all := []change{
		{"a nil serial", func(c *api.Crl) { c.Gone = []api.Gone{{}} }},
		{"an empty serial", func(c *api.Crl) { c.Gone = []api.Gone{{Serial: []byte{}}} }},
		{"64 zero values", func(c *api.Crl) { c.Gone = make([]api.Gone, 64) }},
	}
	wrongGone := func(what string, g api.Gone) {
		all = append(all,
			change{what + " alone", func(c *api.Crl) { c.Gone = []api.Gone{g} }},
			change{what + " first", func(c *api.Crl) { c.Gone = amid(63, 0, g) }},
			change{what + " amid", func(c *api.Crl) { c.Gone = amid(5, 3, g) }},
			change{what + " last", func(c *api.Crl) { c.Gone = amid(63, 63, g) }},
		)
	}
	for _, told := range noSerials() {
		wrongGone("serial "+told, api.Gone{Serial: bytesFrom(told), At: 30})
	}
	for _, at := range noTimes() {
		all = append(all, change{"This", func(c *api.Crl) { c.This = at }}, change{"Next", func(c *api.Crl) { c.Next = at }})
		wrongGone("At", api.Gone{Serial: []byte{1}, At: at})
		wrongGone("At and serial", api.Gone{Serial: []byte{0}, At: at})
	}
	for _, n := range noNames() {
		all = append(all, change{"Issuer", func(c *api.Crl) { c.Issuer = n }})
	}
	for _, n := range []int{65, 66, 128, 255, 256, 257, 320, 1000} {
		all = append(all, change{"Gone", func(c *api.Crl) { c.Gone = slices.Repeat(gones(1), n) }})
	}
	return all
}

func someOf[T any](r *rand.Rand, l []T) T { return l[r.Intn(len(l))] }

// someCrl is a list that many things were done to, all of them right.
func someCrl(r *rand.Rand, all []change) api.Crl {
	c := someOf(r, []api.Crl{bare(), full()})
	for range r.Intn(6) {
		someOf(r, all).do(&c)
	}
	return c
}

// Elements.

func tree(b []byte) api.Tlv {
	t, err := der.Parse(b)
	if err != nil {
		panic(err)
	}
	return t
}

func written(t api.Tlv) []byte {
	b, err := der.Write(t)
	if err != nil {
		panic(err)
	}
	return b
}

// made is an element of class 0 of others.
func made(tag int, kids ...api.Tlv) api.Tlv { return api.Tlv{Tag: tag, Made: true, Kids: kids} }

// leaf is one of class 0 of bytes.
func leaf(tag int, told string) api.Tlv { return api.Tlv{Tag: tag, Body: bytesFrom(told)} }

// copied is an element with memory of its own.
func copied(t api.Tlv) api.Tlv {
	t.Body = bytes.Clone(t.Body)
	t.Kids = slices.Clone(t.Kids)
	for i, kid := range t.Kids {
		t.Kids[i] = copied(kid)
	}
	return t
}

// places are the ways to all the elements of one, itself included.
func places(t api.Tlv) [][]int {
	l := [][]int{nil}
	for i, kid := range t.Kids {
		for _, way := range places(kid) {
			l = append(l, append([]int{i}, way...))
		}
	}
	return l
}

// changed is an element in which another one stands at a place.
func changed(t api.Tlv, way []int, change func(api.Tlv) api.Tlv) api.Tlv {
	t = copied(t)
	at := &t
	for _, i := range way {
		// An earlier change may have taken the place away.
		if i >= len(at.Kids) {
			return t
		}
		at = &at.Kids[i]
	}
	*at = change(*at)
	return t
}

func replaced(t api.Tlv, way []int, by api.Tlv) api.Tlv {
	return changed(t, way, func(api.Tlv) api.Tlv { return by })
}

// headsTaken is how many classes, tags and makings are taken at a place of an element.
func headsTaken(x api.Tlv, way []int, taken func(api.Tlv) bool) int {
	n := 0
	for head := range 4 * 31 * 2 {
		isMade := head%2 == 1
		other := changed(x, way, func(t api.Tlv) api.Tlv {
			if isMade != t.Made {
				t.Body, t.Kids = nil, nil
			}
			t.Class, t.Tag, t.Made = head/2/31, head/2%31, isMade
			return t
		})
		if taken(other) {
			n++
		}
	}
	return n
}

// Places in the element of a list of revoked ones.
func atBody() []int    { return []int{0} }
func atVersion() []int { return []int{0, 0} }
func atIssuer() []int  { return []int{0, 2} }
func atThis() []int    { return []int{0, 3} }
func atNext() []int    { return []int{0, 4} }
func atGone() []int    { return []int{0, 5} }
func atSig() []int     { return []int{2} }

func atAlgorithms() [][]int { return [][]int{{0, 1}, {1}} }

// Of one that is revoked.
func atSerial(i int) []int { return []int{0, 5, i, 0} }
func atTime(i int) []int   { return []int{0, 5, i, 1} }

// treeOf is the element of a list of revoked ones.
func treeOf(c api.Crl) api.Tlv { return tree(wantCrl(wantBody(c), someSig())) }

// elementChanges are those that make another element of each one that they are put to.
func elementChanges() []func(api.Tlv) api.Tlv {
	all := []func(api.Tlv) api.Tlv{
		func(t api.Tlv) api.Tlv { t.Class = (t.Class + 1) % 4; return t },
		func(t api.Tlv) api.Tlv { t.Class = (t.Class + 2) % 4; return t },
		func(t api.Tlv) api.Tlv { t.Class = (t.Class + 3) % 4; return t },
		func(t api.Tlv) api.Tlv { t.Tag = (t.Tag + 1) % 31; return t },
		func(t api.Tlv) api.Tlv { t.Tag = (t.Tag + 30) % 31; return t },
		func(t api.Tlv) api.Tlv { return api.Tlv{Class: t.Class, Tag: t.Tag, Made: !t.Made} },
		// Told as bytes, or as an element.
		func(t api.Tlv) api.Tlv {
			if !t.Made {
				return api.Tlv{Class: t.Class, Tag: t.Tag, Made: true, Kids: []api.Tlv{t}}
			}
			return api.Tlv{Class: t.Class, Tag: t.Tag, Body: kidBytes(t)}
		},
		func(t api.Tlv) api.Tlv { return api.Tlv{Class: t.Class, Tag: t.Tag, Made: t.Made} },
		func(api.Tlv) api.Tlv { return leaf(5, "") },
		func(t api.Tlv) api.Tlv { return made(16, t) },
		func(t api.Tlv) api.Tlv { return made(17, t) },
	}
	return slices.Concat(all, kidChanges(), bodyChanges())
}

// kidChanges are one kid fewer, one more, others.
func kidChanges() []func(api.Tlv) api.Tlv {
	all := []func(api.Tlv) api.Tlv{
		func(t api.Tlv) api.Tlv { t.Kids = t.Kids[:max(len(t.Kids)-1, 0)]; return t },
		func(t api.Tlv) api.Tlv { t.Kids = t.Kids[min(len(t.Kids), 1):]; return t },
		func(t api.Tlv) api.Tlv { slices.Reverse(t.Kids); return t },
		func(t api.Tlv) api.Tlv {
			if len(t.Kids) > 0 {
				t.Kids = append(t.Kids, copied(t.Kids[0]))
			}
			return t
		},
		func(t api.Tlv) api.Tlv {
			if len(t.Kids) > 0 {
				t.Kids = slices.Insert(t.Kids, 0, copied(t.Kids[len(t.Kids)-1]))
			}
			return t
		},
	}
	for _, kid := range []api.Tlv{leaf(5, ""), leaf(2, "01"), made(16), {Class: 2, Made: true}} {
		all = append(all, func(t api.Tlv) api.Tlv {
			if t.Made {
				t.Kids = append(t.Kids, kid)
			}
			return t
		})
	}
	return all
}

// bodyChanges are to other bytes.
func bodyChanges() []func(api.Tlv) api.Tlv {
	var all []func(api.Tlv) api.Tlv
	for _, other := range []func([]byte) []byte{
		func(b []byte) []byte { return b[:max(len(b)-1, 0)] },
		func(b []byte) []byte { return b[min(len(b), 1):] },
		func(b []byte) []byte { return append(b, 0) },
		func(b []byte) []byte { return append(b, 1) },
		func(b []byte) []byte { return append([]byte{0}, b...) },
		func(b []byte) []byte { return append([]byte{0x80}, b...) },
	} {
		all = append(all, func(t api.Tlv) api.Tlv {
			if !t.Made {
				t.Body = other(t.Body)
			}
			return t
		})
	}
	return all
}

func kidBytes(t api.Tlv) []byte {
	var all []byte
	for _, kid := range t.Kids {
		all = append(all, written(kid)...)
	}
	return all
}
