package parcel

import "parcel/api"

const (
	sumSize   = 4 // bytes of a sum, and of a tag
	headSize  = 5 // bytes ahead of the entries
	entrySize = 6 // bytes of an entry between its path and its noughts
)

// contents is what a package is made of.
type contents struct {
	entries []api.Entry
	config  api.Config
}

// readPackage gives what a package is made of, in lists that share nothing with it.
func readPackage(p []byte, key string) (contents, api.Errno) {
	e := sealFault(p, key)
	if e != api.OK {
		return contents{}, e
	}
	entries, whole := readEntries(p)
	if !whole {
		return contents{}, api.ErrForm
	}
	found := contents{entries: entries, config: readConfig(p, key)}
	// Reading passes over much that a package must have; to make it anew passes over nothing.
	if !isPackageOf(p, found) {
		return contents{}, api.ErrForm
	}
	return found, api.OK
}

// sealFault tells the first fault that can be told without a look at what the bytes say; OK, if there is none.
func sealFault(p []byte, key string) api.Errno {
	if !isKey(key) {
		return api.ErrKey
	}
	if len(p) > api.MaxPackage {
		return api.ErrLong
	}
	if len(p) < api.MinPackage {
		return api.ErrShort
	}
	tagAt := len(p) - sumSize
	sumAt := tagAt - sumSize
	sum := Sum(p[:sumAt])
	if sum != number(p[sumAt:tagAt]) {
		return api.ErrSum
	}
	tag := tagOf(key, p[:tagAt])
	if tag != number(p[tagAt:]) {
		return api.ErrTag
	}
	return api.OK
}

// readConfig reads the settings of a package of MinPackage bytes or more, be they good or not.
func readConfig(p []byte, key string) api.Config {
	return api.Config{Key: key, Align: int(p[2]), Pack: p[3] == 1}
}

// readEntries reads the entries of a package of MinPackage bytes or more, be they good or not; false, if one of them cannot be read.
func readEntries(p []byte) ([]api.Entry, bool) {
	var entries []api.Entry
	rest := p[headSize:]
	for count := int(p[headSize-1]); count > 0; count-- {
		e, size := readEntry(rest)
		if size == 0 {
			return nil, false
		}
		entries = append(entries, e)
		rest = rest[size:]
	}
	return entries, true
}

// readEntry reads the entry with which some bytes begin, and tells how many of them are its own; 0, if it is not there to its end, or cannot be unpacked.
func readEntry(rest []byte) (api.Entry, int) {
	if len(rest) == 0 {
		return api.Entry{}, 0
	}
	pathEnd := 1 + int(rest[0])
	noughtsAt := pathEnd + entrySize
	if noughtsAt > len(rest) {
		return api.Entry{}, 0
	}
	// The two bytes ahead of these tell the body's length, which what is laid tells as well.
	size := number(rest[pathEnd+3 : pathEnd+5])
	laidAt := noughtsAt + int(rest[pathEnd+5])
	end := laidAt + size
	if end > len(rest) {
		return api.Entry{}, 0
	}
	body, e := readBody(int(rest[pathEnd]), rest[laidAt:end])
	if e != api.OK {
		return api.Entry{}, 0
	}
	return api.Entry{Path: string(rest[1:pathEnd]), Body: body}, end
}

// readBody gives a fresh list of the body that was laid with a method.
func readBody(method int, laid []byte) ([]byte, api.Errno) {
	if method == api.Packed {
		return Unpack(laid)
	}
	var body []byte
	return append(body, laid...), api.OK
}

// isPackageOf tells whether some bytes are the package of what was found in them.
func isPackageOf(p []byte, found contents) bool {
	again, e, path := Build(found.entries, found.config)
	if e != api.OK || path != "" {
		return false
	}
	return string(again) == string(p)
}

// number gives the number in a few bytes.
func number(bytes []byte) int {
	n := 0
	for i := 0; i < len(bytes); i++ {
		n = n<<8 + int(bytes[i])
	}
	return n
}
