package manifest

import (
	"escutcheon/api"
	"escutcheon/prim"
)

// How many bytes there are in what a manifest holds as bytes.
const (
	nonceSize   = 12
	wrappedSize = 145
	digestSize  = 48
)

const allCount = 0 // what is ahead of bits of which all count

// element is a manifest's.
func element(m api.Manifest) (api.Tlv, error) {
	all := list()
	for _, n := range []int{m.Version, m.Class, m.Load, m.Length} {
		body, err := prim.SmallOf(n)
		if err != nil {
			return api.Tlv{}, err
		}
		all.Kids = append(all.Kids, plain(api.TagInt, body))
	}
	if len(m.Nonce) != nonceSize || len(m.Wrapped) != wrappedSize || len(m.Digest) != digestSize {
		return api.Tlv{}, api.ErrArg
	}
	for _, b := range [][]byte{m.Nonce, m.Wrapped, m.Digest} {
		all.Kids = append(all.Kids, plain(api.TagBytes, b))
	}
	return all, nil
}

func list(kids ...api.Tlv) api.Tlv { return api.Tlv{Tag: api.TagList, Made: true, Kids: kids} }

func plain(tag int, body []byte) api.Tlv { return api.Tlv{Tag: tag, Body: body} }

func wholeBits(b []byte) api.Tlv { return plain(api.TagBits, append([]byte{allCount}, b...)) }
