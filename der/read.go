package der

import (
	"bytes"

	"escutcheon/api"
)

// element reads the one that begins at a place, and tells where it ends. It is in as many others;
// b ends where the innermost of those does, so that places stay those of the whole.
func element(b []byte, at, in int) (api.Tlv, int, error) {
	if in >= api.MaxDepth {
		return api.Tlv{}, 0, spot(at, api.ErrDepth)
	}
	if at >= len(b) {
		return api.Tlv{}, 0, spot(at, api.ErrShort)
	}
	head := int(b[at])
	if head&tagBits == noTag {
		return api.Tlv{}, 0, spot(at, api.ErrForm)
	}
	from, end, err := held(b, at+1)
	if err != nil {
		return api.Tlv{}, 0, err
	}
	t := api.Tlv{Class: head / classUnit, Tag: head & tagBits, Made: head&madeBit != 0}
	if !t.Made {
		t.Body = bytes.Clone(b[from:end])
		return t, end, nil
	}
	t.Kids, err = elements(b[:end], from, in+1)
	if err != nil {
		return api.Tlv{}, 0, err
	}
	return t, end, nil
}

// elements reads those that stand from a place to the end of b, one behind the other.
func elements(b []byte, at, in int) ([]api.Tlv, error) {
	var all []api.Tlv
	for at < len(b) {
		t, end, err := element(b, at, in)
		if err != nil {
			return nil, err
		}
		all = append(all, t)
		at = end
	}
	return all, nil
}

// held is where that begins, and ends, whose length stands at a place.
func held(b []byte, at int) (int, int, error) {
	if at >= len(b) {
		return 0, 0, spot(at, api.ErrShort)
	}
	n, from := int(b[at]), at+1
	if n == longMark || n > longMark+maxLong {
		return 0, 0, spot(at, api.ErrForm)
	}
	if n > longMark {
		told := n - longMark
		if told > len(b)-from {
			return 0, 0, spot(at, api.ErrShort)
		}
		n = number(b[from : from+told])
		// A length has one way to be told: there are no noughts ahead, and no bytes of its own that it doesn't need.
		if b[from] == 0 || n < longMark {
			return 0, 0, spot(at, api.ErrForm)
		}
		from += told
	}
	if n > len(b)-from {
		return 0, 0, spot(at, api.ErrShort)
	}
	return from, from + n, nil
}

// number is that of bytes, the highest first.
func number(b []byte) int {
	n := 0
	for _, x := range b {
		n = n<<byteBits | int(x)
	}
	return n
}

func spot(at int, c api.Code) error { return &api.Spot{At: at, Err: c} }
