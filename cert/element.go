package cert

import (
	"bytes"
	"slices"

	"escutcheon/api"
	"escutcheon/prim"
)

// The bodies of identifiers. They stand here as bytes, so that they needn't be told anew, and can be
// held against what was read.
const (
	algorithmId = "\x2a\x86\x48\xce\x3d\x04\x03\x03" // 1.2.840.10045.4.3.3
	keyId       = "\x2a\x86\x48\xce\x3d\x02\x01"     // 1.2.840.10045.2.1
	curveId     = "\x2b\x81\x04\x00\x22"             // 1.3.132.0.34
	caId        = "\x55\x1d\x13"                     // 2.5.29.19
	usageId     = "\x55\x1d\x0f"                     // 2.5.29.15
	usesId      = "\x55\x1d\x25"                     // 2.5.29.37
	namesId     = "\x55\x1d\x1e"                     // 2.5.29.30
)

// marks is the class of elements that are told apart by their tags alone.
const marks = 2

const truthByte = 0xff

func list(kids ...api.Tlv) api.Tlv { return api.Tlv{Tag: api.TagList, Made: true, Kids: kids} }

func marked(tag int, kids ...api.Tlv) api.Tlv {
	return api.Tlv{Class: marks, Tag: tag, Made: true, Kids: kids}
}

func plain(tag int, body []byte) api.Tlv { return api.Tlv{Tag: tag, Body: body} }

func identifier(id string) api.Tlv { return plain(api.TagOid, []byte(id)) }

func truth() api.Tlv { return plain(api.TagBool, []byte{truthByte}) }

// wholeBits are bits of which all count.
func wholeBits(b []byte) api.Tlv { return plain(api.TagBits, append([]byte{0}, b...)) }

func algorithm() api.Tlv { return list(identifier(algorithmId)) }

func isList(t api.Tlv) bool { return t.Class == 0 && t.Tag == api.TagList && t.Made }

func isMarked(t api.Tlv, tag int) bool { return t.Class == marks && t.Tag == tag && t.Made }

func isPlain(t api.Tlv, tag int) bool { return t.Class == 0 && t.Tag == tag && !t.Made }

func isTruth(t api.Tlv) bool { return same(t, truth()) }

// same tells whether two elements are: as each has just one way to be told, nothing else need be asked.
func same(a, b api.Tlv) bool {
	return a.Class == b.Class && a.Tag == b.Tag && a.Made == b.Made &&
		bytes.Equal(a.Body, b.Body) && slices.EqualFunc(a.Kids, b.Kids, same)
}

// bytesOfBits are an element's bytes, all of whose bits count.
func bytesOfBits(t api.Tlv) ([]byte, error) {
	if !isPlain(t, api.TagBits) {
		return nil, api.ErrForm
	}
	b, unused, err := prim.Bits(t.Body)
	if err != nil {
		return nil, err
	}
	if unused > 0 {
		return nil, api.ErrForm
	}
	return b, nil
}
