package crl

import (
	"escutcheon/api"
	"escutcheon/der"
	"escutcheon/ecdsa"
	"escutcheon/name"
	"escutcheon/prim"
)

// How many elements there are in the lists of a list of revoked ones. A body has one more where any is
// revoked.
const (
	crlParts  = 3
	bodyParts = 5
	goneParts = 2
)

func crlOf(t api.Tlv) (api.Crl, error) {
	if !isList(t) || len(t.Kids) != crlParts || !same(t.Kids[1], algorithm()) {
		return api.Crl{}, api.ErrForm
	}
	c, err := signedOf(t.Kids[0])
	if err != nil {
		return api.Crl{}, err
	}
	c.Body, err = der.Write(t.Kids[0])
	if err != nil {
		return api.Crl{}, err
	}
	c.Sig, err = sigOf(t.Kids[2])
	if err != nil {
		return api.Crl{}, err
	}
	return c, nil
}

// signedOf is a list of revoked ones as far as its body tells it.
func signedOf(t api.Tlv) (api.Crl, error) {
	if !isList(t) || len(t.Kids) < bodyParts || len(t.Kids) > bodyParts+1 {
		return api.Crl{}, api.ErrForm
	}
	if !same(t.Kids[0], version()) || !same(t.Kids[1], algorithm()) {
		return api.Crl{}, api.ErrForm
	}
	var c api.Crl
	var err error
	c.Issuer, err = name.Of(t.Kids[2])
	if err != nil {
		return api.Crl{}, err
	}
	c.This, err = timeOf(t.Kids[3])
	if err != nil {
		return api.Crl{}, err
	}
	c.Next, err = timeOf(t.Kids[4])
	if err != nil {
		return api.Crl{}, err
	}
	if len(t.Kids) == bodyParts {
		return c, nil
	}
	c.Gone, err = goneOf(t.Kids[bodyParts])
	if err != nil {
		return api.Crl{}, err
	}
	return c, nil
}

// goneOf are those that a list tells: where none is revoked there is no such list.
func goneOf(t api.Tlv) ([]api.Gone, error) {
	if !isList(t) || len(t.Kids) == 0 || len(t.Kids) > api.MaxGone {
		return nil, api.ErrForm
	}
	var gone []api.Gone
	for _, kid := range t.Kids {
		if !isList(kid) || len(kid.Kids) != goneParts {
			return nil, api.ErrForm
		}
		serial, err := serialOf(kid.Kids[0])
		if err != nil {
			return nil, err
		}
		at, err := timeOf(kid.Kids[1])
		if err != nil {
			return nil, err
		}
		gone = append(gone, api.Gone{Serial: serial, At: at})
	}
	return gone, nil
}

func serialOf(t api.Tlv) ([]byte, error) {
	if !isPlain(t, api.TagInt) {
		return nil, api.ErrForm
	}
	n, err := prim.Number(t.Body)
	if err != nil {
		return nil, err
	}
	if !isSerial(n) {
		return nil, api.ErrForm
	}
	return n, nil
}

func timeOf(t api.Tlv) (int64, error) {
	// Which tags there are is asked below.
	if !isPlain(t, t.Tag) {
		return 0, api.ErrForm
	}
	return prim.Time(t.Tag, t.Body)
}

// sigOf is the signature that an element's bits tell, all of which count.
func sigOf(t api.Tlv) (api.Sig, error) {
	if !isPlain(t, api.TagBits) {
		return api.Sig{}, api.ErrForm
	}
	b, unused, err := prim.Bits(t.Body)
	if err != nil {
		return api.Sig{}, err
	}
	if unused != allCount {
		return api.Sig{}, api.ErrForm
	}
	return ecdsa.Decode(b)
}
