package parcel

import "parcel/api"

const (
	allBits   = 0xFFFFFFFF
	sumFactor = 0xEDB88320
	tagFactor = 257
)

// sumStep takes one byte more into the register of a sum.
func sumStep(register int, b byte) int {
	register ^= int(b)
	for bit := 0; bit < 8; bit++ {
		fallen := register & 1
		register >>= 1
		if fallen == 1 {
			register ^= sumFactor
		}
	}
	return register
}

// isKey tells whether a key is one.
func isKey(key string) bool {
	return len(key) >= 1 && len(key) <= api.MaxKey
}

// tagOf is the tag of a key, whether it is one or not, and some bytes.
func tagOf(key string, data []byte) int {
	h := tagOfText(0, key)
	h = tagOfBytes(h, data)
	return tagOfText(h, key)
}

// tagStep takes one byte more into a tag.
func tagStep(h int, b byte) int {
	return (h*tagFactor + int(b) + 1) % api.Modulus
}

// tagOfText goes by bytes, since a key may be no valid text.
func tagOfText(h int, text string) int {
	for i := 0; i < len(text); i++ {
		h = tagStep(h, text[i])
	}
	return h
}

// tagOfBytes goes on with a tag over some bytes.
func tagOfBytes(h int, data []byte) int {
	for i := 0; i < len(data); i++ {
		h = tagStep(h, data[i])
	}
	return h
}
