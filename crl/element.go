package crl

import (
	"bytes"
	"slices"

	"escutcheon/api"
)

// algorithmId is the body of the identifier 1.2.840.10045.4.3.3. It stands here as bytes, so that it
// needn't be told anew, and can be held against what was read.
const algorithmId = "\x2a\x86\x48\xce\x3d\x04\x03\x03"

const versionNumber = 1 // told of the second version, as the first one is 0

const allCount = 0 // what is ahead of bits of which all count

func list(kids ...api.Tlv) api.Tlv { return api.Tlv{Tag: api.TagList, Made: true, Kids: kids} }

func plain(tag int, body []byte) api.Tlv { return api.Tlv{Tag: tag, Body: body} }

func version() api.Tlv { return plain(api.TagInt, []byte{versionNumber}) }

func algorithm() api.Tlv { return list(plain(api.TagOid, []byte(algorithmId))) }

func wholeBits(b []byte) api.Tlv { return plain(api.TagBits, append([]byte{allCount}, b...)) }

func isList(t api.Tlv) bool { return t.Class == 0 && t.Tag == api.TagList && t.Made }

func isPlain(t api.Tlv, tag int) bool { return t.Class == 0 && t.Tag == tag && !t.Made }

// same tells whether two elements are: as each has just one way to be told, nothing else need be asked.
func same(a, b api.Tlv) bool {
	return a.Class == b.Class && a.Tag == b.Tag && a.Made == b.Made &&
		bytes.Equal(a.Body, b.Body) && slices.EqualFunc(a.Kids, b.Kids, same)
}
