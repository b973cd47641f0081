package fold

// sign is the number of a sign, or any other number.
type sign int

// noughts holds each system's nought; its other digits stand behind it.
var noughts = [4]sign{0x30, 0x660, 0x6f0, 0x966}

// steps tells what a sign goes through. The width is first: what it leaves may be
// a capital letter. The others leave what none of them changes.
func steps() [6]func(sign) sign {
	return [6]func(sign) sign{sign.narrow, sign.blank, sign.dash, sign.apostrophe, sign.digit, sign.small}
}

func (r sign) within(first, last sign) bool { return first <= r && r <= last }

func (r sign) narrow() sign {
	if r.within(0xff01, 0xff5e) {
		return r - 0xfee0
	}
	return r
}

func (r sign) blank() sign {
	switch {
	case r == 0x9, r == 0xa0, r.within(0x2000, 0x200a), r == 0x202f, r == 0x205f, r == 0x3000:
		return 0x20
	}
	return r
}

func (r sign) dash() sign {
	if r.within(0x2010, 0x2015) || r == 0x2212 {
		return 0x2d
	}
	return r
}

func (r sign) apostrophe() sign {
	switch r {
	case 0x2018, 0x2019, 0x2bc:
		return 0x27
	}
	return r
}

func (r sign) digit() sign {
	for _, nought := range noughts {
		if r.within(nought, nought+9) {
			return 0x30 + r - nought
		}
	}
	return r
}

func (r sign) small() sign {
	switch {
	case r == 0xd7, r == 0x3a2:
		// They stand among capital letters, but are none.
		return r
	case r.within(0x41, 0x5a), r.within(0xc0, 0xde), r.within(0x391, 0x3a9), r.within(0x410, 0x42f):
		return r + 0x20
	case r.within(0x400, 0x40f):
		return r + 0x50
	}
	return r
}
