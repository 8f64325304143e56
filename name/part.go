package name

import (
	"slices"

	"escutcheon/api"
	"escutcheon/prim"
)

const (
	pairs    = 1 // lists that a part's set holds
	pairSize = 2 // elements of such a list: an identifier and a text
)

// kindId is the identifier of a kind: 2.5.4 and the kind.
func kindId(kind int) []uint64 { return []uint64{2, 5, 4, uint64(kind)} }

func isKind(kind int) bool {
	switch kind {
	case api.KindCommon, api.KindCountry, api.KindOrg, api.KindUnit:
		return true
	}
	return false
}

// setOf is a part's set.
func setOf(p api.Part) (api.Tlv, error) {
	id, err := prim.OidOf(kindId(p.Kind))
	if err != nil || !isKind(p.Kind) {
		return api.Tlv{}, api.ErrArg
	}
	text := []byte(p.Text)
	if _, err := prim.Text(text); err != nil {
		return api.Tlv{}, api.ErrArg
	}
	return made(api.TagSet, made(api.TagList, plain(api.TagOid, id), plain(api.TagText, text))), nil
}

// partOf is a set's part.
func partOf(set api.Tlv) (api.Part, error) {
	if !isMade(set, api.TagSet) || len(set.Kids) != pairs {
		return api.Part{}, api.ErrForm
	}
	pair := set.Kids[0]
	if !isMade(pair, api.TagList) || len(pair.Kids) != pairSize {
		return api.Part{}, api.ErrForm
	}
	id, text := pair.Kids[0], pair.Kids[1]
	if !isPlain(id, api.TagOid) || !isPlain(text, api.TagText) {
		return api.Part{}, api.ErrForm
	}
	kind, err := kindOf(id.Body)
	if err != nil {
		return api.Part{}, err
	}
	told, err := prim.Text(text.Body)
	if err != nil {
		// To prim a text may be too long; here that is one more way to be no name.
		return api.Part{}, api.ErrForm
	}
	return api.Part{Kind: kind, Text: told}, nil
}

// kindOf is the kind that an identifier's body tells.
func kindOf(body []byte) (int, error) {
	id, err := prim.Oid(body)
	if err != nil {
		return 0, api.ErrForm
	}
	kind := int(id[len(id)-1])
	if !isKind(kind) || !slices.Equal(id, kindId(kind)) {
		return 0, api.ErrForm
	}
	return kind, nil
}

// made is an element of class 0 that is made of others.
func made(tag int, kids ...api.Tlv) api.Tlv { return api.Tlv{Tag: tag, Made: true, Kids: kids} }

// plain is one that holds bytes.
func plain(tag int, body []byte) api.Tlv { return api.Tlv{Tag: tag, Body: body} }

// A body where others belong, or others where a body does, would be lost in a name: though no such
// element can be written, none is taken.

func isMade(t api.Tlv, tag int) bool {
	return t.Class == 0 && t.Tag == tag && t.Made && len(t.Body) == 0
}

func isPlain(t api.Tlv, tag int) bool {
	return t.Class == 0 && t.Tag == tag && !t.Made && len(t.Kids) == 0
}
