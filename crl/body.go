package crl

import (
	"escutcheon/api"
	"escutcheon/name"
	"escutcheon/prim"
)

// bodyElement is the element of which Body tells the bytes.
func bodyElement(c api.Crl) (api.Tlv, error) {
	issuer, err := name.Element(c.Issuer)
	if err != nil {
		return api.Tlv{}, err
	}
	this, err := timeElement(c.This)
	if err != nil {
		return api.Tlv{}, err
	}
	next, err := timeElement(c.Next)
	if err != nil {
		return api.Tlv{}, err
	}
	body := list(version(), algorithm(), issuer, this, next)
	if len(c.Gone) == 0 {
		return body, nil
	}
	gone, err := goneElement(c.Gone)
	if err != nil {
		return api.Tlv{}, err
	}
	body.Kids = append(body.Kids, gone)
	return body, nil
}

// goneElement is the list of those that are revoked.
func goneElement(gone []api.Gone) (api.Tlv, error) {
	if len(gone) > api.MaxGone {
		return api.Tlv{}, api.ErrArg
	}
	all := list()
	for _, g := range gone {
		serial, err := serialElement(g.Serial)
		if err != nil {
			return api.Tlv{}, err
		}
		at, err := timeElement(g.At)
		if err != nil {
			return api.Tlv{}, err
		}
		all.Kids = append(all.Kids, list(serial, at))
	}
	return all, nil
}

func isSerial(n []byte) bool { return len(n) > 0 && len(n) <= api.MaxSerial && n[0] != 0 }

func serialElement(serial []byte) (api.Tlv, error) {
	if !isSerial(serial) {
		return api.Tlv{}, api.ErrArg
	}
	body, err := prim.NumberOf(serial)
	if err != nil {
		return api.Tlv{}, err
	}
	return plain(api.TagInt, body), nil
}

func timeElement(at int64) (api.Tlv, error) {
	tag, body, err := prim.TimeOf(at)
	if err != nil {
		return api.Tlv{}, err
	}
	return plain(tag, body), nil
}
