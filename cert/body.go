package cert

import (
	"escutcheon/api"
	"escutcheon/curve"
	"escutcheon/name"
	"escutcheon/prim"
)

const (
	versionMark    = 0
	versionNumber  = 2 // told of the third version, as the first one is 0
	extensionsMark = 3
)

func version() api.Tlv { return marked(versionMark, plain(api.TagInt, []byte{versionNumber})) }

// bodyElement is the element of which Body tells the bytes.
func bodyElement(c api.Cert) (api.Tlv, error) {
	serial, err := serialElement(c.Serial)
	if err != nil {
		return api.Tlv{}, err
	}
	issuer, err := name.Element(c.Issuer)
	if err != nil {
		return api.Tlv{}, err
	}
	times, err := timesElement(c.From, c.To)
	if err != nil {
		return api.Tlv{}, err
	}
	subject, err := name.Element(c.Subject)
	if err != nil {
		return api.Tlv{}, err
	}
	key, err := keyElement(c.Key)
	if err != nil {
		return api.Tlv{}, err
	}
	extensions, err := extensionsElement(c)
	if err != nil {
		return api.Tlv{}, err
	}
	return list(version(), serial, algorithm(), issuer, times, subject, key, marked(extensionsMark, extensions)), nil
}

func isSerial(n []byte) bool { return len(n) > 0 && len(n) <= api.MaxSerial && n[0] != 0 }

func serialElement(serial []byte) (api.Tlv, error) {
	if !isSerial(serial) {
		return api.Tlv{}, api.ErrArg
	}
	body, err := prim.NumberOf(serial)
	if err != nil {
		return api.Tlv{}, err
	}
	return plain(api.TagInt, body), nil
}

func timesElement(from, to int64) (api.Tlv, error) {
	times := list()
	for _, at := range []int64{from, to} {
		tag, body, err := prim.TimeOf(at)
		if err != nil {
			return api.Tlv{}, err
		}
		times.Kids = append(times.Kids, plain(tag, body))
	}
	return times, nil
}

// keyKind tells that a key is a point, and of which curve.
func keyKind() api.Tlv { return list(identifier(keyId), identifier(curveId)) }

func keyElement(p api.Point) (api.Tlv, error) {
	b, err := curve.Encode(p)
	if err != nil {
		return api.Tlv{}, err
	}
	return list(keyKind(), wholeBits(b)), nil
}
