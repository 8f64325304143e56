package cert

import (
	"bytes"
	"slices"
	"strings"
	"testing"

	"escutcheon/api"
)

// P17.3: what the extensions of the four kinds hold.

// checkContent holds a kind with some bytes against the library, with its truth and without.
func checkContent(t *testing.T, id string, content []byte) bool {
	t.Helper()
	one, other := checkTree(t, id, withExts(ext(id, content, yes()))), checkTree(t, id, withExts(ext(id, content)))
	if one != other {
		t.Errorf("%s with %x: %v with its truth, %v without", id, content, one, other)
	}
	return one
}

// checkContents asks for those that are right, or wrong.
func checkContents(t *testing.T, id string, want bool, told ...string) {
	t.Helper()
	for _, s := range told {
		if got := checkContent(t, id, bytesFrom(s)); got != want {
			t.Errorf("%s with %s: %v", id, s, got)
		}
	}
}

// readWith is what is read of a certificate with one extension.
func readWith(t *testing.T, id string, content []byte) api.Cert {
	t.Helper()
	c, err := Decode(written(withExts(ext(id, content))))
	if err != nil {
		t.Fatalf("%s with %x: %v", id, content, err)
	}
	return c
}

func TestCaContents(t *testing.T) {
	for _, c := range []struct {
		told string
		ca   bool
		path int
	}{
		{"30 00", false, -1}, {"30 03 01 01 ff", true, -1}, {"30 06 01 01 ff 02 01 00", true, 0}, {"30 06 01 01 ff 02 01 7f", true, 127},
		{"30 07 01 01 ff 02 02 0080", true, 128}, {"30 09 01 01 ff 02 04 7fffffff", true, 1<<31 - 1},
	} {
		if got := readWith(t, idCa, bytesFrom(c.told)); got.Ca != c.ca || got.Path != c.path || got.Usage != -1 {
			t.Errorf("%s: %v, %d, %d", c.told, got.Ca, got.Path, got.Usage)
		}
		checkContents(t, idCa, true, c.told)
	}
	checkContents(t, idCa, false,
		"", "30", "30 00 00", "05 00", "31 00", "10 00", "70 00", "b0 00", "31 03 01 01 ff",
		"30 03 01 01 00", "30 03 01 01 01", "30 03 01 01 fe", "30 02 01 00", "30 04 01 02 ffff", "30 03 02 01 ff", "30 03 41 01 ff", "30 03 81 01 ff", "30 05 21 03 01 01 ff", "30 02 21 00",
		"30 03 02 01 00", "30 03 02 01 05", "30 06 02 01 05 01 01 ff", "30 06 01 01 00 02 01 05", "30 06 01 01 ff 01 01 ff", "30 02 05 00", "30 05 01 01 ff 05 00",
		"30 05 01 01 ff 02 00", "30 06 01 01 ff 02 01 80", "30 06 01 01 ff 02 01 ff", "30 07 01 01 ff 02 02 0005", "30 07 01 01 ff 02 02 007f", "30 07 01 01 ff 02 02 ffff", "30 08 01 01 ff 02 03 000080",
		"30 0a 01 01 ff 02 05 0080000000", "30 0a 01 01 ff 02 05 0100000000", "30 0a 01 01 ff 02 05 00ffffffff", "30 0e 01 01 ff 02 09 010000000000000001", "30 13 01 01 ff 02 0e 0100000000000000000000000005",
		"30 06 01 01 ff 0a 01 05", "30 06 01 01 ff 04 01 05", "30 06 01 01 ff 42 01 05", "30 06 01 01 ff 82 01 05", "30 08 01 01 ff 22 03 02 01 05", "30 09 01 01 ff 02 01 05 02 01 05", "30 08 01 01 ff 02 01 05 05 00",
		"30 08 30 06 01 01 ff 02 01 05", "01 01 ff", "02 01 05", "30 80 00 00", "30 81 00", "30 81 03 01 01 ff", "30 07 01 01 ff 02 01 05", "1f 00",
		"30 46 01 01 ff 02 41 01"+strings.Repeat("00", 64),
	)
	for n := range 256 {
		checkContent(t, idCa, []byte{0x30, 3, 1, 1, byte(n)})
		checkContent(t, idCa, []byte{0x30, 6, 1, 1, 255, 2, 1, byte(n)})
		checkContent(t, idCa, []byte{0x30, 7, 1, 1, 255, 2, 2, byte(n), 0})
		checkContent(t, idCa, []byte{0x30, 7, 1, 1, 255, 2, 2, 0, byte(n)})
		checkContent(t, idCa, []byte{0x30, 9, 1, 1, 255, 2, 4, byte(n), 0, 0, 0})
		checkContent(t, idCa, []byte{0x30, 10, 1, 1, 255, 2, 5, 0, byte(n), 0, 0, 0})
	}
}

func TestUsageContents(t *testing.T) {
	for _, c := range []struct {
		told  string
		usage int
	}{
		{"03 02 07 80", 1}, {"03 02 06 40", 2}, {"03 02 06 c0", 3}, {"03 02 00 01", 128}, {"03 02 00 ff", 255}, {"03 02 01 06", 96}, {"03 03 07 00 80", 256}, {"03 03 07 80 80", 257}, {"03 03 00 00 01", 32768}, {"03 03 00 ff ff", 65535}, {"03 03 04 12 30", 0x0c48},
	} {
		if got := readWith(t, idUsage, bytesFrom(c.told)); got.Usage != c.usage || got.Path != -1 || got.Ca {
			t.Errorf("%s: %d, %d, %v", c.told, got.Usage, got.Path, got.Ca)
		}
		checkContents(t, idUsage, true, c.told)
	}
	checkContents(t, idUsage, false,
		"", "03", "03 00", "03 01 00", "03 01 07", "03 02 00 00", "03 02 07 00", "03 02 00 80", "03 02 06 80", "03 02 08 80", "03 02 07 c0", "03 02 07 81", "03 02 01 80",
		"03 03 00 80 00", "03 03 07 80 00", "03 03 00 00 00", "03 03 07 ff 00", "03 03 06 00 80", "03 03 00 00 80", "03 03 08 00 80", "03 04 00 00 00 01", "03 04 07 80 80 80", "03 04 07 80 00 00", "03 05 00 01 01 01 01",
		"04 02 07 80", "02 02 07 80", "30 04 03 02 07 80", "23 04 03 02 07 80", "23 00", "43 02 07 80", "83 02 07 80", "c3 02 07 80", "03 02 07 80 00", "03 81 02 07 80", "03 03 07 80", "05 00", "30 00", "1f 02 07 80",
	)
	for unused := range 10 {
		for last := range 256 {
			checkContent(t, idUsage, []byte{3, 2, byte(unused), byte(last)})
			for _, first := range []byte{0, 1, 0x5a, 0xff} {
				checkContent(t, idUsage, []byte{3, 3, byte(unused), first, byte(last)})
			}
		}
	}
}

func TestReadsEveryUsage(t *testing.T) {
	x := withExts(ext(idOther, nil))
	for usage := 1; usage < 1<<16; usage++ {
		other := replaced(x, append(atExtensions(), 0), ext(idUsage, marshal(usageString(usage))))
		if got, err := Decode(written(other)); err != nil || got.Usage != usage {
			t.Errorf("%d was read as %d, %v", usage, got.Usage, err)
		}
	}
}

func TestUsesContents(t *testing.T) {
	for n := range 20 {
		var l []api.Tlv
		for _, id := range ids(n) {
			l = append(l, tree(marshal(idOf(id))))
		}
		content := written(made(16, l...))
		if got := checkContent(t, idUses, content); got != (n >= 1 && n <= 8) {
			t.Errorf("%d uses: %v", n, got)
		}
		if n >= 1 && n <= 8 && !slices.EqualFunc(readWith(t, idUses, content).Uses, ids(n), slices.Equal) {
			t.Errorf("%d uses", n)
		}
	}
	for _, id := range []string{"00", "27", "28", "4f", "50", "8837", "8fffffff7f", "908080804f", "2a" + strings.Repeat("8fffffff7f", 14), strings.Repeat("00", 15), "551d13", "551d2500"} {
		checkContents(t, idUses, true, told(made(16, leaf(6, id))), told(made(16, leaf(6, id), leaf(6, id))))
	}
	for _, id := range []string{"", "80", "8001", "81", "2a80", "2a8001", "2aff", "9080808050", "2a9080808000", "2a" + strings.Repeat("8fffffff7f", 15), strings.Repeat("00", 16)} {
		wrong := leaf(6, id)
		for n := range 8 {
			l := slices.Repeat([]api.Tlv{leaf(6, "2a")}, 7)
			checkContents(t, idUses, false, told(made(16, wrong)), told(made(16, slices.Insert(l, n, wrong)...)))
		}
	}
	right := leaf(6, "2b06010401a46701")
	for _, wrong := range []api.Tlv{
		made(17, right), right, leaf(5, ""), made(16, made(16, right)), made(16, leaf(5, "")), made(16, right, leaf(5, "")), made(16, leaf(5, ""), right), made(16, leaf(4, "2a")), made(16, leaf(13, "2a")), made(16, leaf(2, "2a")),
		made(16, api.Tlv{Class: 1, Tag: 6, Body: []byte{42}}), made(16, api.Tlv{Class: 2, Tag: 6, Body: []byte{42}}), made(16, api.Tlv{Class: 3, Tag: 6, Body: []byte{42}}), made(16, api.Tlv{Tag: 6, Made: true, Kids: []api.Tlv{right}}), made(16, api.Tlv{Tag: 6, Made: true}),
		{Class: 1, Tag: 16, Made: true, Kids: []api.Tlv{right}}, {Class: 2, Tag: 16, Made: true, Kids: []api.Tlv{right}}, {Tag: 16, Body: written(right)},
	} {
		checkContents(t, idUses, false, told(wrong))
	}
	checkContents(t, idUses, false, "", "30", told(made(16, right))+"00", "30 80 06 01 2a 00 00")
}

// told is an element as the digits of its bytes.
func told(t api.Tlv) string {
	const digits = "0123456789abcdef"
	var s strings.Builder
	for _, x := range written(t) {
		s.WriteByte(digits[x>>4])
		s.WriteByte(digits[x&15])
	}
	return s.String()
}

// mark is an element of class 2, made.
func mark(tag int, kids ...api.Tlv) api.Tlv {
	return api.Tlv{Class: 2, Tag: tag, Made: true, Kids: kids}
}

// base is a name as Permit and Exclude hold it.
func base(n api.Name) api.Tlv { return made(16, mark(4, tree(marshal(nameListOf(n))))) }

func bases(n int) []api.Tlv {
	var l []api.Tlv
	for _, one := range many(n) {
		l = append(l, base(one))
	}
	return l
}

func TestNamesContents(t *testing.T) {
	sameNames := func(a, b []api.Name) bool {
		return slices.EqualFunc(a, b, func(a, b api.Name) bool { return slices.Equal(a, b) })
	}
	for p := range 12 {
		for e := range 12 {
			x := made(16)
			if p > 0 {
				x.Kids = append(x.Kids, mark(0, bases(p)...))
			}
			if e > 0 {
				x.Kids = append(x.Kids, mark(1, bases(e)...))
			}
			want := p+e > 0 && p <= 8 && e <= 8
			checkContents(t, idNames, want, told(x))
			if !want {
				continue
			}
			if got := readWith(t, idNames, written(x)); !sameNames(got.Permit, many(p)) || !sameNames(got.Exclude, many(e)) {
				t.Errorf("%d and %d: %v and %v", p, e, got.Permit, got.Exclude)
			}
		}
	}
}

func TestOrdersOfPermitAndExclude(t *testing.T) {
	permit, exclude, none := mark(0, base(parts(2))), mark(1, base(parts(3))), leaf(5, "")
	for _, right := range []api.Tlv{made(16, permit), made(16, exclude), made(16, permit, exclude)} {
		checkContents(t, idNames, true, told(right))
	}
	for _, wrong := range []api.Tlv{
		made(16), made(16, exclude, permit), made(16, permit, permit), made(16, exclude, exclude), made(16, permit, exclude, exclude), made(16, permit, permit, exclude), made(16, permit, exclude, permit), made(16, exclude, permit, exclude),
		made(16, permit, none), made(16, none, permit), made(16, exclude, none), made(16, none, exclude), made(16, permit, none, exclude), made(16, permit, exclude, none), made(16, none, permit, exclude), made(16, none),
		made(16, mark(2, base(nil))), made(16, permit, mark(2, base(nil))), made(16, permit, exclude, mark(2, base(nil))), made(16, mark(3, base(nil))), made(16, mark(4, base(nil))),
		made(16, mark(0)), made(16, mark(1)), made(16, mark(0), mark(1)), made(16, mark(0), exclude), made(16, permit, mark(1)), made(16, api.Tlv{Class: 2, Tag: 0}), made(16, api.Tlv{Class: 2, Tag: 1}), made(16, permit, api.Tlv{Class: 2, Tag: 1}),
		permit, exclude, made(17, permit), made(17, permit, exclude), made(16, made(16, permit)), base(nil), made(16, base(nil)),
		made(16, api.Tlv{Class: 1, Tag: 0, Made: true, Kids: permit.Kids}), made(16, api.Tlv{Class: 3, Tag: 1, Made: true, Kids: permit.Kids}), made(16, made(0, permit.Kids...)), made(16, made(1, permit.Kids...)),
		made(16, mark(0, made(16, permit.Kids...))), made(16, mark(0, made(16))), made(16, mark(0, base(nil), none)), made(16, mark(0, none)), made(16, mark(1, none, base(nil))),
	} {
		checkContents(t, idNames, false, told(wrong))
	}
	checkContents(t, idNames, false, "", "30", "30 80 00 00", told(made(16, permit))+"00")
}

func TestNamesOfPermitAndExclude(t *testing.T) {
	for tag := range 2 {
		with := func(one api.Tlv) []string {
			return []string{told(made(16, mark(tag, one))), told(made(16, mark(tag, append(bases(7), one)...))), told(made(16, mark(tag, append([]api.Tlv{one}, bases(7)...)...)))}
		}
		for n := range 12 {
			checkContents(t, idNames, n <= 8, with(base(parts(n)))...)
		}
		for _, n := range noNames() {
			if x, ok := nameTree(n); ok {
				checkContents(t, idNames, false, with(made(16, mark(4, x)))...)
			}
		}
		right := tree(marshal(nameListOf(parts(2))))
		checkContents(t, idNames, true, with(made(16, mark(4, right)))...)
		for _, wrong := range []api.Tlv{
			made(16), made(16, mark(4)), made(16, mark(4, right, right)), made(16, mark(4, right), mark(4, right)), made(16, mark(4, right, leaf(5, ""))), made(16, mark(4, leaf(5, ""))),
			made(16, mark(4, right), api.Tlv{Class: 2, Tag: 0, Body: []byte{0}}), made(16, mark(4, right), leaf(5, "")), made(16, leaf(5, ""), mark(4, right)), made(17, mark(4, right)), mark(4, right), made(16, right), right,
			made(16, mark(3, right)), made(16, mark(5, right)), made(16, mark(0, right)), made(16, api.Tlv{Class: 2, Tag: 4, Made: true, Kids: right.Kids}), made(16, made(4, right)), made(16, made(16, right)),
			made(16, api.Tlv{Class: 1, Tag: 4, Made: true, Kids: []api.Tlv{right}}), made(16, api.Tlv{Class: 3, Tag: 4, Made: true, Kids: []api.Tlv{right}}), made(16, api.Tlv{Class: 2, Tag: 4, Body: written(right)}), made(16, api.Tlv{Class: 2, Tag: 4}),
			made(16, api.Tlv{Class: 2, Tag: 2, Body: []byte("example.org")}), made(16, mark(4, made(17, right.Kids...))), made(16, mark(4, made(16, right))), leaf(5, ""), leaf(16, ""),
		} {
			checkContents(t, idNames, false, with(wrong)...)
		}
	}
}

// Every class, tag and making, and every change, at every place of what an extension holds.
func TestOtherContentsAtEveryPlace(t *testing.T) {
	for id, content := range kinds() {
		x := tree(content)
		for _, way := range places(x) {
			right := headsTaken(x, way, func(x api.Tlv) bool { return checkContent(t, id, written(x)) })
			if right != 1 {
				t.Errorf("%s: %d heads were taken at %v; want 1", id, right, way)
			}
			for _, change := range elementChanges() {
				checkContent(t, id, written(changed(x, way, change)))
			}
		}
	}
}

func TestOtherBytesInContents(t *testing.T) {
	for id, content := range kinds() {
		for place := range content {
			for x := range 256 {
				b := bytes.Clone(content)
				b[place] = byte(x)
				checkTree(t, id, withExts(ext(id, b)))
			}
			checkContent(t, id, content[:place])
			checkContent(t, id, content[place+1:])
		}
		checkContents(t, id, false, told(tree(content))+"00", told(tree(content))+told(tree(content)), "")
		// Another kind's content, and one that is too deep to be an element.
		for other, content := range kinds() {
			if got := checkContent(t, id, content); got != (id == other) {
				t.Errorf("%s with that of %s: %v", id, other, got)
			}
		}
		for _, depth := range []int{1, 2, 8, 16, 17, 18, 40} {
			if got := checkContent(t, id, unbounded(nested(depth))); got != (id == idCa && depth == 1) {
				t.Errorf("%s with depth %d: %v", id, depth, got)
			}
		}
	}
}
