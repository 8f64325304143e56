package manifest

import (
	"bytes"
	"crypto/elliptic"
	"encoding/asn1"
	"encoding/hex"
	"errors"
	"math"
	"math/big"
	"math/rand"
	"slices"
	"strconv"
	"strings"

	"escutcheon/api"
	"escutcheon/der"
)

func bytesFrom(told string) []byte {
	b, err := hex.DecodeString(strings.Join(strings.Fields(told), ""))
	if err != nil {
		panic(err)
	}
	return b
}

// Manifests.

// row are as many bytes, of which no two that lie together are the same.
func row(n int, first byte) []byte {
	b := make([]byte, n)
	for i := range b {
		b[i] = first + byte(i)*7
	}
	return b
}

// zero is one that is all 0.
func zero() api.Manifest {
	return api.Manifest{Nonce: make([]byte, 12), Wrapped: make([]byte, 145), Digest: make([]byte, 48)}
}

// full is one of which no part is like another.
func full() api.Manifest {
	return api.Manifest{Version: 3, Class: 128, Load: 256, Length: 70000, Nonce: row(12, 1), Wrapped: row(145, 4), Digest: row(48, 0xf0)}
}

// number is one of a manifest's four, by its place.
func number(m *api.Manifest, place int) *int {
	return []*int{&m.Version, &m.Class, &m.Load, &m.Length}[place]
}

// rowOf is one of a manifest's three that are bytes, by its place.
func rowOf(m *api.Manifest, place int) *[]byte {
	return []*[]byte{&m.Nonce, &m.Wrapped, &m.Digest}[place]
}

func rowSizes() []int { return []int{12, 145, 48} }

func someNumbers() []int {
	return []int{0, 1, 2, 16, 64, 127, 128, 129, 255, 256, 257, 32767, 32768, 65535, 65536, 1<<23 - 1, 1 << 23, 1<<24 - 1, 1 << 24, 1<<31 - 2, 1<<31 - 1}
}

func noNumbers() []int {
	return []int{math.MinInt, math.MinInt + 1, -1 << 32, -1<<32 + 1, -1<<31 - 1, -1 << 31, -256, -128, -2, -1, 1 << 31, 1<<31 + 1, 1<<32 - 1, 1 << 32, 1<<32 + 1, 1 << 40, math.MaxInt - 1, math.MaxInt}
}

// noSizes are how many bytes none of a manifest's may have where so many belong.
func noSizes(size int) []int {
	return []int{0, 1, size - 2, size - 1, size + 1, size + 2, 2 * size, size + 256, 1000}
}

// change makes another manifest of one, whatever that is.
type change struct {
	what string
	do   func(*api.Manifest)
}

// rightChanges are those to something that a manifest may have.
func rightChanges() []change {
	all := []change{{"nothing", func(*api.Manifest) {}}}
	for place := range 4 {
		for _, n := range someNumbers() {
			all = append(all, change{"number " + strconv.Itoa(place) + " is " + strconv.Itoa(n), func(m *api.Manifest) { *number(m, place) = n }})
		}
	}
	for place, size := range rowSizes() {
		for _, b := range [][]byte{make([]byte, size), bytes.Repeat([]byte{0xff}, size), bytes.Repeat([]byte{0x30}, size), row(size, 0x77)} {
			all = append(all, change{"bytes " + strconv.Itoa(place), func(m *api.Manifest) { *rowOf(m, place) = bytes.Clone(b) }})
		}
	}
	return all
}

// wrongChanges are those to something that no manifest may have.
func wrongChanges() []change {
	var all []change
	for place := range 4 {
		for _, n := range noNumbers() {
			all = append(all, change{"number " + strconv.Itoa(place) + " is " + strconv.Itoa(n), func(m *api.Manifest) { *number(m, place) = n }})
		}
	}
	for place, size := range rowSizes() {
		all = append(all, change{"no bytes " + strconv.Itoa(place), func(m *api.Manifest) { *rowOf(m, place) = nil }})
		for _, n := range noSizes(size) {
			all = append(all, change{strconv.Itoa(n) + " bytes " + strconv.Itoa(place), func(m *api.Manifest) { *rowOf(m, place) = row(n, 9) }})
		}
	}
	return all
}

func someOf[T any](r *rand.Rand, l []T) T { return l[r.Intn(len(l))] }

// someManifest is any that may be.
func someManifest(r *rand.Rand) api.Manifest {
	var m api.Manifest
	for place := range 4 {
		*number(&m, place) = r.Intn(1<<31) >> r.Intn(31)
	}
	for place, size := range rowSizes() {
		b := make([]byte, size)
		r.Read(b)
		*rowOf(&m, place) = b
	}
	return m
}

func sameManifest(a, b api.Manifest) bool {
	return a.Version == b.Version && a.Class == b.Class && a.Load == b.Load && a.Length == b.Length &&
		bytes.Equal(a.Nonce, b.Nonce) && bytes.Equal(a.Wrapped, b.Wrapped) && bytes.Equal(a.Digest, b.Digest)
}

// Signatures.

func overN(more int64) api.U384 {
	return numberOf(new(big.Int).Add(elliptic.P384().Params().N, big.NewInt(more)))
}

func someSig() api.Sig {
	return api.Sig{R: numberOf(elliptic.P384().Params().Gx), S: api.U384{0, 0, 0, 0, 0, 1 << 63}}
}

func lastSig() api.Sig { return api.Sig{R: api.U384{1}, S: overN(-1)} }

// noSigs are those that ecdsa.Encode refuses.
func noSigs() []api.Sig {
	one, all := api.U384{1}, uint64(math.MaxUint64)
	full := api.U384{all, all, all, all, all, all}
	return []api.Sig{{}, {R: one}, {S: one}, {R: overN(0), S: one}, {R: one, S: overN(0)}, {R: overN(1), S: one}, {R: one, S: overN(1)}, {R: full, S: one}, {R: one, S: full}, {R: full, S: full}, {R: overN(0)}}
}

// rightSigs are of all lengths.
func rightSigs() []api.Sig {
	l := []api.Sig{someSig(), lastSig(), {R: api.U384{127}, S: api.U384{128}}, {R: overN(-1), S: overN(-1)}}
	for i := range 6 {
		var a api.U384
		for _, x := range []uint64{1, 0x7f, 0x80, 0xff, 1 << 55, 1 << 56, 1<<63 - 1, 1 << 63} {
			a[i] = x
			l = append(l, api.Sig{R: a, S: api.U384{1}}, api.Sig{R: api.U384{1}, S: a})
		}
	}
	return l
}

// Elements.

func tree(b []byte) api.Tlv {
	t, err := der.Parse(b)
	if err != nil {
		panic(err)
	}
	return t
}

func written(t api.Tlv) []byte {
	b, err := der.Write(t)
	if err != nil {
		panic(err)
	}
	return b
}

// unbounded are the bytes of an element, however deep and long it is.
func unbounded(t api.Tlv) []byte {
	held := bytes.Clone(t.Body)
	for _, kid := range t.Kids {
		held = append(held, unbounded(kid)...)
	}
	return marshal(asn1.RawValue{Class: t.Class, Tag: t.Tag, IsCompound: t.Made, Bytes: held})
}

// made is an element of class 0 of others.
func made(tag int, kids ...api.Tlv) api.Tlv { return api.Tlv{Tag: tag, Made: true, Kids: kids} }

// leaf is one of class 0 of bytes.
func leaf(tag int, told string) api.Tlv { return api.Tlv{Tag: tag, Body: bytesFrom(told)} }

// copied is an element with memory of its own.
func copied(t api.Tlv) api.Tlv {
	t.Body = bytes.Clone(t.Body)
	t.Kids = slices.Clone(t.Kids)
	for i, kid := range t.Kids {
		t.Kids[i] = copied(kid)
	}
	return t
}

// places are the ways to all the elements of one, itself included.
func places(t api.Tlv) [][]int {
	l := [][]int{nil}
	for i, kid := range t.Kids {
		for _, way := range places(kid) {
			l = append(l, append([]int{i}, way...))
		}
	}
	return l
}

// changed is an element in which another one stands at a place.
func changed(t api.Tlv, way []int, change func(api.Tlv) api.Tlv) api.Tlv {
	t = copied(t)
	at := &t
	for _, i := range way {
		// An earlier change may have taken the place away.
		if i >= len(at.Kids) {
			return t
		}
		at = &at.Kids[i]
	}
	*at = change(*at)
	return t
}

func replaced(t api.Tlv, way []int, by api.Tlv) api.Tlv {
	return changed(t, way, func(api.Tlv) api.Tlv { return by })
}

// headsTaken is how many classes, tags and makings are taken at a place of an element.
func headsTaken(x api.Tlv, way []int, taken func(api.Tlv) bool) int {
	n := 0
	for head := range 4 * 31 * 2 {
		isMade := head%2 == 1
		other := changed(x, way, func(t api.Tlv) api.Tlv {
			if isMade != t.Made {
				t = turned(t)
			}
			t.Class, t.Tag = head/2/31, head/2%31
			return t
		})
		if taken(other) {
			n++
		}
	}
	return n
}

// turned is made where another one isn't; its bytes are then no elements, so that it holds none.
func turned(t api.Tlv) api.Tlv { return api.Tlv{Class: t.Class, Tag: t.Tag, Made: !t.Made} }

// elementChanges are those that make another element of each one that they are put to.
func elementChanges() []func(api.Tlv) api.Tlv {
	all := []func(api.Tlv) api.Tlv{
		func(t api.Tlv) api.Tlv { t.Class = (t.Class + 1) % 4; return t },
		func(t api.Tlv) api.Tlv { t.Class = (t.Class + 2) % 4; return t },
		func(t api.Tlv) api.Tlv { t.Class = (t.Class + 3) % 4; return t },
		func(t api.Tlv) api.Tlv { t.Tag = (t.Tag + 1) % 31; return t },
		func(t api.Tlv) api.Tlv { t.Tag = (t.Tag + 30) % 31; return t },
		turned,
		// Told as bytes, or as an element.
		func(t api.Tlv) api.Tlv {
			if !t.Made {
				return api.Tlv{Class: t.Class, Tag: t.Tag, Made: true, Kids: []api.Tlv{t}}
			}
			return api.Tlv{Class: t.Class, Tag: t.Tag, Body: kidBytes(t)}
		},
		func(t api.Tlv) api.Tlv { return api.Tlv{Class: t.Class, Tag: t.Tag, Made: t.Made} },
		func(api.Tlv) api.Tlv { return leaf(5, "") },
		func(t api.Tlv) api.Tlv { return made(16, t) },
		func(t api.Tlv) api.Tlv { return made(17, t) },
	}
	return slices.Concat(all, kidChanges(), bodyChanges())
}

// kidChanges are one kid fewer, one more, others.
func kidChanges() []func(api.Tlv) api.Tlv {
	all := []func(api.Tlv) api.Tlv{
		func(t api.Tlv) api.Tlv { t.Kids = t.Kids[:max(len(t.Kids)-1, 0)]; return t },
		func(t api.Tlv) api.Tlv { t.Kids = t.Kids[min(len(t.Kids), 1):]; return t },
		func(t api.Tlv) api.Tlv { slices.Reverse(t.Kids); return t },
		func(t api.Tlv) api.Tlv {
			if len(t.Kids) > 0 {
				t.Kids = append(t.Kids, copied(t.Kids[0]))
			}
			return t
		},
		func(t api.Tlv) api.Tlv {
			if len(t.Kids) > 0 {
				t.Kids = slices.Insert(t.Kids, 0, copied(t.Kids[len(t.Kids)-1]))
			}
			return t
		},
	}
	for _, kid := range []api.Tlv{leaf(5, ""), leaf(2, "01"), leaf(4, ""), made(16)} {
		all = append(all, func(t api.Tlv) api.Tlv {
			if t.Made {
				t.Kids = append(t.Kids, kid)
			}
			return t
		})
	}
	return all
}

// bodyChanges are to other bytes.
func bodyChanges() []func(api.Tlv) api.Tlv {
	var all []func(api.Tlv) api.Tlv
	for _, other := range []func([]byte) []byte{
		func(b []byte) []byte { return b[:max(len(b)-1, 0)] },
		func(b []byte) []byte { return b[min(len(b), 1):] },
		func(b []byte) []byte { return append(b, 0) },
		func(b []byte) []byte { return append(b, 1) },
		func(b []byte) []byte { return append([]byte{0}, b...) },
		func(b []byte) []byte { return append([]byte{0x80}, b...) },
		func(b []byte) []byte { return bytes.Repeat([]byte{0x7f}, len(b)) },
	} {
		all = append(all, func(t api.Tlv) api.Tlv {
			if !t.Made {
				t.Body = other(t.Body)
			}
			return t
		})
	}
	return all
}

func kidBytes(t api.Tlv) []byte {
	var all []byte
	for _, kid := range t.Kids {
		all = append(all, written(kid)...)
	}
	return all
}

// nested is a list in a list, and so on: of as many depths.
func nested(depth int) api.Tlv {
	x := made(16)
	for range depth - 1 {
		x = made(16, x)
	}
	return x
}

// padded are the bytes of a list that has as many bytes, and the depth told.
func padded(size, depth int) []byte {
	room := make([]byte, size)
	// As lengths of other sizes are told otherwise, one padding alone doesn't do for all.
	for _, more := range [][]api.Tlv{nil, {leaf(5, "")}, {leaf(4, "00")}} {
		for n := max(0, size-100); n < size; n++ {
			kids := append([]api.Tlv{nested(depth - 1), {Tag: 4, Body: room[:n]}}, more...)
			if got, err := der.Size(made(16, kids...)); err == nil && got == size {
				return written(made(16, kids...))
			}
		}
	}
	panic("no such element")
}

// noElements are bytes that der.Parse refuses, made of those of an element.
func noElements(b []byte) [][]byte {
	all := [][]byte{
		nil, {}, {0x30}, {0x1f, 0}, {0x3f, 0}, {0x30, 0x80, 0, 0}, {0x30, 0x84, 0, 0, 0, 1}, {0x30, 0x81, 5}, {0x02, 0x81, 1, 0}, {5, 0, 0}, {5, 0, 5, 0}, {0x30, 2, 5, 1},
		append(bytes.Clone(b), 0), slices.Concat(b, b), b[1:],
		make([]byte, 1<<20+1), make([]byte, 1<<20), append(bytes.Clone(b), make([]byte, 1<<20)...), padded(1<<20, 2)[:1<<20-1],
	}
	for i := range b {
		all = append(all, b[:i])
	}
	for depth := 17; depth < 60; depth++ {
		all = append(all, unbounded(nested(depth)))
	}
	return all
}

// Errors.

func sameError(a, b error) bool {
	var x, y *api.Spot
	if errors.As(a, &x) && errors.As(b, &y) {
		return *x == *y
	}
	return a == b
}

func short(b []byte) string {
	const most = 2000
	told := hex.EncodeToString(b[:min(len(b), most)])
	if len(b) > most {
		return told + ".."
	}
	return told
}
