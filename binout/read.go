package binout

import (
	"slices"

	"buttery/num"
)

// Read is the answer that bytes begin with: its code, its status, its opaque token, its number, its extras, key and value, and how many bytes it takes; 0: there is none.
func Read(b []byte) (code int, status uint16, opaque uint32, cas uint64, parts [3][]byte, used int) {
	used = measure(b)
	if used == 0 {
		return
	}
	code = int(b[1])
	status = uint16(num.Get(b[6:8:8]))
	opaque = uint32(num.Get(b[12:16:16]))
	cas = num.Get(b[16:24:24])
	parts = cut(b[:used:used])
	return
}

// measure is how many bytes the first answer takes; 0: there is none that is whole.
func measure(b []byte) (used int) {
	if len(b) < headSize || b[0] != answers {
		return 0
	}
	body := num.Get(b[8:12:12])
	if body >= tooMuch || uint64(len(b)-headSize) < body {
		return 0
	}
	used = headSize + int(body)
	if _, keyEnd := ends(b); keyEnd > used {
		return 0
	}
	return used
}

// ends are where the extras and the key end, as the head says.
func ends(b []byte) (extrasEnd, keyEnd int) {
	extrasEnd = headSize + int(b[4])
	keyEnd = extrasEnd + int(num.Get(b[2:4:4]))
	return extrasEnd, keyEnd
}

// cut is what stands behind the head of a whole answer, part by part, each in memory of its own.
func cut(b []byte) (parts [partCount][]byte) {
	extrasEnd, keyEnd := ends(b)
	parts[extras] = slices.Clone(b[headSize:extrasEnd:extrasEnd])
	parts[key] = slices.Clone(b[extrasEnd:keyEnd:keyEnd])
	parts[value] = slices.Clone(b[keyEnd:len(b):len(b)])
	return parts
}
