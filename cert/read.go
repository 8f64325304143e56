package cert

import (
	"escutcheon/api"
	"escutcheon/curve"
	"escutcheon/der"
	"escutcheon/ecdsa"
	"escutcheon/name"
	"escutcheon/prim"
)

// How many elements there are in the lists of a certificate.
const (
	certParts = 3
	bodyParts = 8
	timeParts = 2
	keyParts  = 2
)

func certOf(t api.Tlv) (api.Cert, error) {
	if !isList(t) || len(t.Kids) != certParts || !same(t.Kids[1], algorithm()) {
		return api.Cert{}, api.ErrForm
	}
	c, err := signedOf(t.Kids[0])
	if err != nil {
		return api.Cert{}, err
	}
	c.Body, err = der.Write(t.Kids[0])
	if err != nil {
		return api.Cert{}, err
	}
	sig, err := bytesOfBits(t.Kids[2])
	if err != nil {
		return api.Cert{}, err
	}
	c.Sig, err = ecdsa.Decode(sig)
	if err != nil {
		return api.Cert{}, err
	}
	return c, nil
}

// signedOf is a certificate as far as its body tells it.
func signedOf(t api.Tlv) (api.Cert, error) {
	if !isList(t) || len(t.Kids) != bodyParts || !same(t.Kids[0], version()) || !same(t.Kids[2], algorithm()) {
		return api.Cert{}, api.ErrForm
	}
	var c api.Cert
	var err error
	c.Serial, err = serialOf(t.Kids[1])
	if err != nil {
		return api.Cert{}, err
	}
	c.Issuer, err = name.Of(t.Kids[3])
	if err != nil {
		return api.Cert{}, err
	}
	c.From, c.To, err = timesOf(t.Kids[4])
	if err != nil {
		return api.Cert{}, err
	}
	c.Subject, err = name.Of(t.Kids[5])
	if err != nil {
		return api.Cert{}, err
	}
	c.Key, err = keyOf(t.Kids[6])
	if err != nil {
		return api.Cert{}, err
	}
	return withExtensions(c, t.Kids[7])
}

func serialOf(t api.Tlv) ([]byte, error) {
	if !isPlain(t, api.TagInt) {
		return nil, api.ErrForm
	}
	n, err := prim.Number(t.Body)
	if err != nil {
		return nil, err
	}
	if !isSerial(n) {
		return nil, api.ErrForm
	}
	return n, nil
}

func timesOf(t api.Tlv) (from, to int64, err error) {
	if !isList(t) || len(t.Kids) != timeParts {
		return 0, 0, api.ErrForm
	}
	from, err = timeOf(t.Kids[0])
	if err != nil {
		return 0, 0, err
	}
	to, err = timeOf(t.Kids[1])
	if err != nil {
		return 0, 0, err
	}
	return from, to, nil
}

func timeOf(t api.Tlv) (int64, error) {
	// Which tags there are is asked below.
	if !isPlain(t, t.Tag) {
		return 0, api.ErrForm
	}
	return prim.Time(t.Tag, t.Body)
}

func keyOf(t api.Tlv) (api.Point, error) {
	if !isList(t) || len(t.Kids) != keyParts || !same(t.Kids[0], keyKind()) {
		return api.Point{}, api.ErrForm
	}
	b, err := bytesOfBits(t.Kids[1])
	if err != nil {
		return api.Point{}, err
	}
	return curve.Decode(b)
}
