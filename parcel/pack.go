package parcel

import "parcel/api"

// A piece that begins with a byte below firstCopy is one of literals, from there to lastCopy a copy, above it none.
const (
	firstCopy = api.MaxRun
	lastCopy  = firstCopy + api.MaxMatch - api.MinMatch
)

// packBody packs a body of whatever length.
func packBody(body []byte) []byte {
	var packed []byte
	first := 0 // where the literals begin that are not laid yet: they go out in pieces as long as can be
	at := 0
	for at < len(body) {
		n, d := bestCopy(body, at)
		if n < api.MinMatch {
			at++
			continue
		}
		pieces := literalPieces(body[first:at])
		packed = append(packed, pieces...)
		packed = append(packed, byte(firstCopy+n-api.MinMatch), byte(d-1))
		at += n
		first = at
	}
	pieces := literalPieces(body[first:])
	return append(packed, pieces...)
}

// bestCopy gives the most bytes for which a distance fits at a place of a body, and the least such distance; 0 and 0, if none fits.
func bestCopy(body []byte, at int) (int, int) {
	best := 0
	distance := 0
	for d := 1; d <= api.MaxBack && d <= at; d++ {
		n := fitLength(body, at, d)
		// Of distances that fit equally far the first one stays, which is the least.
		if n > best {
			best = n
			distance = d
		}
	}
	return best, distance
}

// fitLength tells for how many bytes a distance, from 1 to at, fits.
func fitLength(body []byte, at int, d int) int {
	n := 0
	for n < api.MaxMatch && at+n < len(body) && body[at+n] == body[at+n-d] {
		n++
	}
	return n
}

// literalPieces lays literals that follow one another.
func literalPieces(literals []byte) []byte {
	var laid []byte
	for from := 0; from < len(literals); from += api.MaxRun {
		n := len(literals) - from
		if n > api.MaxRun {
			n = api.MaxRun
		}
		laid = append(laid, byte(n-1))
		laid = append(laid, literals[from:from+n]...)
	}
	return laid
}

// pieceSize tells how many bytes a piece has, by its first one; 0, if no piece begins so.
func pieceSize(head int) int {
	if head < firstCopy {
		return head + 2
	}
	if head <= lastCopy {
		return 2
	}
	return 0
}

// copied gives the n bytes of a copy behind a body, at a distance from 1 to the body's length.
func copied(body []byte, n int, d int) []byte {
	var came []byte
	for i := 0; i < n; i++ {
		var b byte
		// A copy longer than its distance goes on with its own first bytes.
		if i < d {
			b = body[len(body)-d+i]
		} else {
			b = came[i-d]
		}
		came = append(came, b)
	}
	return came
}
