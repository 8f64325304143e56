package cert

import (
	"bytes"
	"math/rand"
	"slices"
	"strconv"
	"strings"
	"testing"

	"escutcheon/api"
)

// P17.3: the extensions.

// The bodies of identifiers, and one of none of them.
const (
	idCa    = "551d13"
	idUsage = "551d0f"
	idUses  = "551d25"
	idNames = "551d1e"
	idOther = "2b06010401a46702"
)

// manyIds are ten more of none of them.
func manyIds(i int) string { return "2b060104010" + strconv.Itoa(i) }

func someUses() []byte {
	return written(made(16, leaf(6, "2b06010401a46701"), leaf(6, "551d2500")))
}

func someNames() []byte {
	return marshal(namesList{basesOf([]api.Name{{org("o")}, {}}), basesOf([]api.Name{parts(3)})})
}

// kinds are the contents of the four kinds, each a right one.
func kinds() map[string][]byte {
	return map[string][]byte{idCa: bytesFrom("30 06 01 01 ff 02 01 05"), idUsage: bytesFrom("03 02 01 86"), idUses: someUses(), idNames: someNames()}
}

func TestExtensionTruths(t *testing.T) {
	for id, content := range kinds() {
		checkRead(t, "it must be understood", withExts(ext(id, content, yes())))
		checkRead(t, "it needn't be", withExts(ext(id, content)))
		for _, truth := range []api.Tlv{leaf(1, "00"), leaf(1, "01"), leaf(1, "fe"), leaf(1, "7f"), leaf(1, ""), leaf(1, "ffff"), leaf(1, "ff00"), leaf(1, "00ff"), leaf(2, "ff"), leaf(2, "01"), leaf(5, ""), leaf(10, "ff"),
			leaf(4, "ff"), leaf(6, id), {Class: 1, Tag: 1, Body: []byte{255}}, {Class: 2, Tag: 1, Body: []byte{255}}, {Class: 3, Tag: 1, Body: []byte{255}}, {Tag: 1, Made: true, Kids: []api.Tlv{yes()}}, made(16, yes())} {
			checkNotRead(t, "another truth", withExts(ext(id, content, truth)))
			checkNotRead(t, "another truth of another", withExts(ext(idOther, content, truth)))
		}
		checkNotRead(t, "two truths", withExts(ext(id, content, yes(), yes())))
		checkNotRead(t, "two truths of another", withExts(ext(idOther, content, yes(), yes())))
	}
}

func TestExtensionForms(t *testing.T) {
	for id, content := range kinds() {
		for _, id := range []string{id, idOther} {
			name, held := leaf(6, id), api.Tlv{Tag: 4, Body: content}
			for _, right := range []api.Tlv{made(16, name, held), made(16, name, yes(), held)} {
				checkRead(t, "an extension", withExts(right))
			}
			for _, wrong := range []api.Tlv{
				made(16), made(16, name), made(16, held), made(16, yes()), made(16, name, yes()), made(16, yes(), held), made(16, held, name), made(16, held, yes(), name), made(16, name, held, yes()), made(16, yes(), name, held),
				made(16, name, held, held), made(16, name, name, held), made(16, name, yes(), held, held), made(16, name, yes(), held, leaf(5, "")), made(16, name, held, leaf(5, "")), made(16, leaf(5, ""), name, held),
				made(17, name, held), made(16, made(16, name, held)), name, held, leaf(5, ""), made(16, name, api.Tlv{Tag: 4, Made: true, Kids: []api.Tlv{held}}),
				made(16, name, leaf(3, "00")), made(16, name, tree(bytesFrom("30 00"))), made(16, name, leaf(12, "61")), {Tag: 16, Body: append(written(name), written(held)...)},
			} {
				checkNotRead(t, "no extension", withExts(wrong))
				checkNotRead(t, "no extension behind one", withExts(ext("551d0e", nil), wrong))
				checkNotRead(t, "no extension ahead of one", withExts(wrong, ext("551d0e", nil)))
			}
		}
	}
}

func TestNoExtensions(t *testing.T) {
	checkNotRead(t, "an empty list", withExts())
	x := treeOf(full())
	way := atExtensions()[:2]
	right := x.Kids[0].Kids[7]
	for _, wrong := range []api.Tlv{
		{Class: 2, Tag: 3, Made: true}, {Class: 2, Tag: 3}, right.Kids[0], {Class: 2, Tag: 3, Made: true, Kids: right.Kids[0].Kids}, {Class: 2, Tag: 3, Made: true, Kids: append(right.Kids, right.Kids[0])},
		{Class: 2, Tag: 3, Made: true, Kids: append(right.Kids, leaf(5, ""))}, {Class: 2, Tag: 3, Made: true, Kids: []api.Tlv{made(17, right.Kids[0].Kids...)}}, {Class: 2, Tag: 2, Made: true, Kids: right.Kids},
		{Class: 2, Tag: 0, Made: true, Kids: right.Kids}, {Class: 1, Tag: 3, Made: true, Kids: right.Kids}, made(3, right.Kids...), leaf(5, ""), {Class: 2, Tag: 3, Made: true, Kids: []api.Tlv{made(16, right.Kids[0])}},
		{Class: 2, Tag: 3, Made: true, Kids: []api.Tlv{made(16)}},
	} {
		checkNotRead(t, "no extensions", replaced(x, way, wrong))
	}
	checkNotRead(t, "none at all", changed(x, []int{0}, func(t api.Tlv) api.Tlv { t.Kids = t.Kids[:7]; return t }))
	// What the other two marks of version 3 mean elsewhere isn't known here.
	for tag := range 4 {
		other := api.Tlv{Class: 2, Tag: tag, Body: []byte{0, 1}}
		checkNotRead(t, "another mark", changed(x, []int{0}, func(t api.Tlv) api.Tlv { t.Kids = slices.Insert(t.Kids, 7, other); return t }))
	}
}

// What is missing is told as that.
func TestMissingExtensions(t *testing.T) {
	all := []string{idCa, idUsage, idUses, idNames}
	for some := range 16 {
		exts := []api.Tlv{ext(idOther, nil)}
		want := bare()
		for i, id := range all {
			if some>>i&1 == 0 {
				continue
			}
			exts = append(exts, ext(id, kinds()[id]))
			switch id {
			case idCa:
				want.Ca, want.Path = true, 5
			case idUsage:
				want.Usage = 0x61
			case idUses:
				want.Uses = [][]uint64{{1, 3, 6, 1, 4, 1, 4711, 1}, {2, 5, 29, 37, 0}}
			case idNames:
				want.Permit, want.Exclude = []api.Name{{org("o")}, nil}, []api.Name{parts(3)}
			}
		}
		x := withExts(exts...)
		want.Body, want.Sig = written(x.Kids[0]), someSig()
		checkDecode(t, "some extensions", written(x), want)
		checkRead(t, "some extensions", x)
	}
}

// permutations are all orders of a list.
func permutations(l []api.Tlv) [][]api.Tlv {
	if len(l) == 0 {
		return [][]api.Tlv{nil}
	}
	var all [][]api.Tlv
	for i := range l {
		rest := append(slices.Clone(l[:i]), l[i+1:]...)
		for _, order := range permutations(rest) {
			all = append(all, append([]api.Tlv{l[i]}, order...))
		}
	}
	return all
}

func TestExtensionsInAnyOrder(t *testing.T) {
	l := []api.Tlv{ext("551d0e", []byte{1}), ext(idOther, []byte{1}, yes())}
	for _, id := range []string{idCa, idUsage, idUses, idNames} {
		l = append(l, ext(id, kinds()[id], yes()))
	}
	first, err := Decode(written(withExts(l...)))
	if err != nil || !first.Odd || !first.Ca {
		t.Fatal(first, err)
	}
	for _, order := range permutations(l) {
		x := withExts(order...)
		first.Body = written(x.Kids[0])
		checkDecode(t, "another order", written(x), first)
		checkRead(t, "another order", x)
	}
}

func TestOneIdentifierTwice(t *testing.T) {
	more := map[string][]byte{
		idOther: {1}, "551d0e": {}, "551d12": {0x30}, "00": {5, 0}, "8837": nil, "8837" + strings.Repeat("8fffffff7f", 14): nil,
		idCa: bytesFrom("30 00"), idUsage: bytesFrom("03 02 07 80"), idUses: written(made(16, leaf(6, "2a"))), idNames: marshal(namesList{Exclude: basesOf([]api.Name{nil})}),
	}
	for id, other := range more {
		content, known := kinds()[id]
		if !known {
			content = []byte{0x1f, 0xff}
		}
		for _, truths := range [][2][]api.Tlv{{nil, nil}, {{yes()}, nil}, {nil, {yes()}}, {{yes()}, {yes()}}} {
			one, same, another := ext(id, content, truths[0]...), ext(id, content, truths[1]...), ext(id, other, truths[1]...)
			checkRead(t, "once", withExts(one))
			checkRead(t, "once", withExts(another))
			checkNotRead(t, "twice", withExts(one, same))
			checkNotRead(t, "twice, otherwise", withExts(one, another))
			checkNotRead(t, "twice, otherwise", withExts(another, one))
			var between []api.Tlv
			for i := range 5 {
				between = append(between, ext(manyIds(i), nil))
			}
			checkRead(t, "once among others", withExts(append(between, one)...))
			checkNotRead(t, "twice around others", withExts(slices.Concat([]api.Tlv{one}, between, []api.Tlv{another})...))
			checkNotRead(t, "three times", withExts(one, same, another))
		}
	}
}

// Of other identifiers: any bytes; whether they must be understood is told.
func TestOtherExtensions(t *testing.T) {
	contents := [][]byte{nil, {0}, {0x30}, {0x30, 0x80}, {0x1f, 0xff}, {5, 0}, {5, 0, 0}, bytesFrom("30 00"), bytesFrom("30 03 01 01 00"), bytes.Repeat([]byte{0x30, 0x80}, 500), unbounded(nested(40)), someNames()}
	for _, id := range []string{
		"551d0e", "551d10", "551d12", "551d14", "551d1d", "551d1f", "551d24", "551d26", "551d00", "551d", "55", "551d1300", "551d0f00", "551d1301", "551d2500", "551d8113", "541d13", "561d13", "2d1d13", "051d13", "550413", "551c13", "551e0f",
		"00", "01", "27", "28", "4f", "50", "8837", "2a8648ce3d040303", "2a8648ce3d0201", "2b81040022", "550403", idOther, "8fffffff7f", "908080804f", strings.Repeat("00", 15), "8837" + strings.Repeat("8fffffff7f", 14),
	} {
		for _, content := range contents {
			for _, must := range []bool{false, true} {
				var truths []api.Tlv
				if must {
					truths = append(truths, yes())
				}
				want := bare()
				want.Odd = must
				x := withExts(ext(id, content, truths...))
				want.Body, want.Sig = written(x.Kids[0]), someSig()
				checkDecode(t, id, written(x), want)
				checkRead(t, id, x)
				// Beside others of all kinds, which say nothing of it.
				l := []api.Tlv{ext("551d0e7f", nil)}
				for kind, content := range kinds() {
					l = append(l, ext(kind, content, yes()))
				}
				for _, all := range [][]api.Tlv{append(l, ext(id, content, truths...)), slices.Insert(slices.Clone(l), 0, ext(id, content, truths...))} {
					if got, err := Decode(written(withExts(all...))); err != nil || got.Odd != must || got.Usage != 0x61 {
						t.Errorf("%s: %+v, %v; want Odd %v", id, got, err, must)
					}
				}
			}
		}
	}
}

// One that must be understood is enough, wherever it stands.
func TestOneOfManyIsOdd(t *testing.T) {
	for odd := range 6 {
		var l []api.Tlv
		for i := range 5 {
			if i == odd {
				l = append(l, ext(manyIds(i), nil, yes()))
			} else {
				l = append(l, ext(manyIds(i), nil))
			}
		}
		if got, err := Decode(written(withExts(l...))); err != nil || got.Odd != (odd < 5) {
			t.Errorf("%d: %v, %v", odd, got.Odd, err)
		}
	}
}

func TestNoIdentifiersOfExtensions(t *testing.T) {
	for _, id := range []string{
		"", "80", "81", "8013", "55801d13", "551d8013", "551d93", "551d13ff", "551d1380", "9080808050", "8fffffffff7f", "559080808000", "551dffffffffffffffffff7f", strings.Repeat("00", 16), strings.Repeat("00", 300), "8837" + strings.Repeat("8fffffff7f", 15),
	} {
		for _, content := range [][]byte{nil, bytesFrom("30 00")} {
			checkNotRead(t, "no identifier "+id, withExts(ext(id, content)))
			checkNotRead(t, "no identifier "+id, withExts(ext(id, content, yes())))
			checkNotRead(t, "no identifier behind "+id, withExts(ext(idCa, bytesFrom("30 00"), yes()), ext(id, content)))
		}
	}
	for a := range 256 {
		checkTree(t, "an identifier", withExts(ext("55", nil), ext("551d", nil), made(16, api.Tlv{Tag: 6, Body: []byte{byte(a)}}, leaf(4, "3000"))))
		for _, b := range []byte{0, 14, 15, 16, 18, 19, 20, 29, 30, 31, 36, 37, 38, 0x80, 0x81, 0xff} {
			checkTree(t, "an identifier", withExts(made(16, api.Tlv{Tag: 6, Body: []byte{0x55, byte(a), b}}, yes(), leaf(4, "3000"))))
			checkTree(t, "an identifier", withExts(made(16, api.Tlv{Tag: 6, Body: []byte{byte(a), 0x1d, b}}, leaf(4, "03020780"))))
		}
		checkTree(t, "an identifier", withExts(made(16, api.Tlv{Tag: 6, Body: []byte{0x55, 0x1d, byte(a)}}, yes(), leaf(4, "3000"))))
	}
}

// As many as there can be, and then one of them twice, or one that is none.
func TestMostExtensions(t *testing.T) {
	var l []api.Tlv
	for i := range 100000 {
		n := 1<<20 + i
		id := []byte{0x2a, byte(0x80 | n>>14), byte(0x80 | n>>7&0x7f), byte(n & 0x7f)}
		l = append(l, made(16, api.Tlv{Tag: 6, Body: id}, api.Tlv{Tag: 4}))
	}
	checkMost := func(want bool, more ...api.Tlv) {
		t.Helper()
		if got, err := Decode(written(withExts(append(slices.Clone(l), more...)...))); (err == nil) != want || isZero(got) == want {
			t.Error(want, err)
		}
	}
	checkMost(true)
	checkMost(false, l[0])
	checkMost(false, l[99999])
	checkMost(false, made(16))
	checkMost(true, ext(idCa, bytesFrom("30 00")))
}

// A great certificate is read, as long as it is an element.
func TestLongExtension(t *testing.T) {
	around := len(written(withExts(ext(idOther, make([]byte, 70000))))) - 70000
	for more := -1; more <= 1; more++ {
		b := unbounded(withExts(ext(idOther, bytes.Repeat([]byte{0x30}, 1<<20-around+more))))
		if got := checkBoth(t, "long", b); got != (more <= 0) || len(b) != 1<<20+more {
			t.Error(len(b), got)
		}
	}
	r := rand.New(rand.NewSource(6))
	long := make([]byte, 900000)
	r.Read(long)
	for _, id := range []string{idCa, idUsage, idUses, idNames} {
		checkNotRead(t, "long", withExts(ext(id, long)))
		checkNotRead(t, "long", withExts(ext(id, written(api.Tlv{Tag: 16, Made: true, Kids: slices.Repeat([]api.Tlv{leaf(6, "2a")}, 200000)}))))
		checkNotRead(t, "long", withExts(ext(id, written(api.Tlv{Tag: 3, Body: append([]byte{0}, long...)}))))
	}
	checkRead(t, "long", withExts(ext(idOther, long)))
}
