package ecdsa

import (
	"escutcheon/api"
	"escutcheon/der"
	"escutcheon/limb"
	"escutcheon/order"
	"escutcheon/prim"
)

const (
	numberSize = 48 // bytes of a number of 384 bits
	numbers    = 2  // of a signature: R and S
)

// Encode is its bytes: P14.3.
func Encode(s api.Sig) ([]byte, error) {
	if !bothInRange(s) {
		return nil, api.ErrRange
	}
	list := api.Tlv{Tag: api.TagList, Made: true}
	for _, a := range []api.U384{s.R, s.S} {
		body, err := prim.NumberOf(limb.Bytes(a))
		if err != nil {
			return nil, err
		}
		list.Kids = append(list.Kids, api.Tlv{Tag: api.TagInt, Body: body})
	}
	return der.Write(list)
}

// Decode reads them: P14.3.
func Decode(b []byte) (api.Sig, error) {
	t, err := der.Parse(b)
	if err != nil {
		return api.Sig{}, err
	}
	if !isA(t, api.TagList, true) || len(t.Kids) != numbers {
		return api.Sig{}, api.ErrForm
	}
	// Both are read before one is held against N: that the other is no number is told first.
	var told [numbers][]byte
	for i, kid := range t.Kids {
		told[i], err = numberOf(kid)
		if err != nil {
			return api.Sig{}, err
		}
	}
	r, err := belowN(told[0])
	if err != nil {
		return api.Sig{}, err
	}
	s, err := belowN(told[1])
	if err != nil {
		return api.Sig{}, err
	}
	return api.Sig{R: r, S: s}, nil
}

func isA(t api.Tlv, tag int, made bool) bool {
	return t.Class == 0 && t.Tag == tag && t.Made == made
}

// numberOf is an element's number, without noughts ahead. One that is too long for layer 13 is no
// number here.
func numberOf(t api.Tlv) ([]byte, error) {
	if !isA(t, api.TagInt, false) {
		return nil, api.ErrForm
	}
	n, err := prim.Number(t.Body)
	if err != nil {
		return nil, api.ErrForm
	}
	return n, nil
}

// belowN is a number that is from 1 to N - 1.
func belowN(n []byte) (api.U384, error) {
	if len(n) > numberSize {
		return api.U384{}, api.ErrRange
	}
	return order.Decode(append(make([]byte, numberSize-len(n)), n...))
}
