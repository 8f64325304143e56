package cert

import (
	"math/bits"

	"escutcheon/api"
	"escutcheon/name"
	"escutcheon/prim"
)

// Usage is bits of at most two bytes.
const (
	maxUsage      = 1<<16 - 1
	maxUsageBytes = 2
	byteBits      = 8
)

// The tags of names that are permitted, and excluded, and of a name among other kinds of names.
const (
	permitMark  = 0
	excludeMark = 1
	nameMark    = 4
)

// How many elements the list of Ca and Path has at most.
const caParts = 2

func caElement(c api.Cert) (api.Tlv, error) {
	if !c.Ca {
		if c.Path != missing {
			return api.Tlv{}, api.ErrArg
		}
		return list(), nil
	}
	if c.Path == missing {
		return list(truth()), nil
	}
	path, err := prim.SmallOf(c.Path)
	if err != nil {
		return api.Tlv{}, err
	}
	return list(truth(), plain(api.TagInt, path)), nil
}

func caOf(t api.Tlv) (ca bool, path int, err error) {
	if !isList(t) || len(t.Kids) > caParts {
		return false, 0, api.ErrForm
	}
	if len(t.Kids) == 0 {
		return false, missing, nil
	}
	if !isTruth(t.Kids[0]) {
		return false, 0, api.ErrForm
	}
	if len(t.Kids) < caParts {
		return true, missing, nil
	}
	if !isPlain(t.Kids[1], api.TagInt) {
		return false, 0, api.ErrForm
	}
	path, err = prim.Small(t.Kids[1].Body)
	if err != nil {
		return false, 0, err
	}
	return true, path, nil
}

func usageElement(c api.Cert) (api.Tlv, error) {
	if c.Usage < 1 || c.Usage > maxUsage {
		return api.Tlv{}, api.ErrArg
	}
	// The bit 0 is a byte's highest one.
	told := bits.Reverse16(uint16(c.Usage))
	b := []byte{byte(told >> byteBits)}
	if low := byte(told); low != 0 {
		b = append(b, low)
	}
	unused := bits.TrailingZeros8(b[len(b)-1])
	return plain(api.TagBits, append([]byte{byte(unused)}, b...)), nil
}

func usageOf(t api.Tlv) (int, error) {
	if !isPlain(t, api.TagBits) {
		return 0, api.ErrForm
	}
	b, unused, err := prim.Bits(t.Body)
	if err != nil {
		return 0, err
	}
	if len(b) == 0 || len(b) > maxUsageBytes {
		return 0, api.ErrForm
	}
	last := b[len(b)-1]
	if last == 0 || unused != bits.TrailingZeros8(last) {
		return 0, api.ErrForm
	}
	usage := 0
	for i, x := range b {
		usage |= int(bits.Reverse8(x)) << (byteBits * i)
	}
	return usage, nil
}

func usesElement(c api.Cert) (api.Tlv, error) {
	if len(c.Uses) > api.MaxUses {
		return api.Tlv{}, api.ErrArg
	}
	uses := list()
	for _, id := range c.Uses {
		body, err := prim.OidOf(id)
		if err != nil {
			return api.Tlv{}, err
		}
		uses.Kids = append(uses.Kids, plain(api.TagOid, body))
	}
	return uses, nil
}

func usesOf(t api.Tlv) ([][]uint64, error) {
	if !isList(t) || len(t.Kids) == 0 || len(t.Kids) > api.MaxUses {
		return nil, api.ErrForm
	}
	var uses [][]uint64
	for _, kid := range t.Kids {
		if !isPlain(kid, api.TagOid) {
			return nil, api.ErrForm
		}
		id, err := prim.Oid(kid.Body)
		if err != nil {
			return nil, err
		}
		uses = append(uses, id)
	}
	return uses, nil
}

func namesElement(c api.Cert) (api.Tlv, error) {
	all := list()
	for mark, names := range [][]api.Name{permitMark: c.Permit, excludeMark: c.Exclude} {
		if len(names) == 0 {
			continue
		}
		t, err := markedNames(mark, names)
		if err != nil {
			return api.Tlv{}, err
		}
		all.Kids = append(all.Kids, t)
	}
	return all, nil
}

func markedNames(mark int, names []api.Name) (api.Tlv, error) {
	if len(names) > api.MaxNames {
		return api.Tlv{}, api.ErrArg
	}
	t := marked(mark)
	for _, n := range names {
		element, err := name.Element(n)
		if err != nil {
			return api.Tlv{}, err
		}
		t.Kids = append(t.Kids, list(marked(nameMark, element)))
	}
	return t, nil
}

func namesOf(t api.Tlv) (permit, exclude []api.Name, err error) {
	if !isList(t) || len(t.Kids) == 0 {
		return nil, nil, api.ErrForm
	}
	rest := t.Kids
	if isMarked(rest[0], permitMark) {
		permit, err = namesUnder(rest[0])
		if err != nil {
			return nil, nil, err
		}
		rest = rest[1:]
	}
	if len(rest) > 0 && isMarked(rest[0], excludeMark) {
		exclude, err = namesUnder(rest[0])
		if err != nil {
			return nil, nil, err
		}
		rest = rest[1:]
	}
	// What is left is in the wrong order, told twice, or neither of them.
	if len(rest) > 0 {
		return nil, nil, api.ErrForm
	}
	return permit, exclude, nil
}

// namesUnder are the names that a marked element holds.
func namesUnder(t api.Tlv) ([]api.Name, error) {
	if len(t.Kids) == 0 || len(t.Kids) > api.MaxNames {
		return nil, api.ErrForm
	}
	var names []api.Name
	for _, kid := range t.Kids {
		n, err := nameUnder(kid)
		if err != nil {
			return nil, err
		}
		names = append(names, n)
	}
	return names, nil
}

func nameUnder(t api.Tlv) (api.Name, error) {
	if !isList(t) || len(t.Kids) != 1 {
		return nil, api.ErrForm
	}
	inner := t.Kids[0]
	if !isMarked(inner, nameMark) || len(inner.Kids) != 1 {
		return nil, api.ErrForm
	}
	return name.Of(inner.Kids[0])
}
