package parcel

import "parcel/api"

// settingsFault tells the least fault of settings; OK, if there is none.
func settingsFault(c api.Config) api.Errno {
	if !isKey(c.Key) {
		return api.ErrKey
	}
	if c.Align < 1 || c.Align > api.MaxAlign {
		return api.ErrAlign
	}
	return api.OK
}

// sortedEntries gives the entries in the order of their paths, in a list of its own.
func sortedEntries(entries []api.Entry) []api.Entry {
	var sorted []api.Entry
	for i := 0; i < len(entries); i++ {
		sorted = append(sorted, entries[i])
		at := i
		for at > 0 && sorted[at-1].Path > entries[i].Path {
			sorted[at] = sorted[at-1]
			at--
		}
		sorted[at] = entries[i]
	}
	return sorted
}

// entriesFault tells the least fault of sorted entries and its path; OK, if there is none.
func entriesFault(sorted []api.Entry) (api.Errno, string) {
	least := api.OK
	path := ""
	for i := 0; i < len(sorted); i++ {
		e := entryFault(sorted[:i], sorted[i])
		// Of equal errors the first one stays, which has the least path.
		if e != api.OK && (least == api.OK || e < least) {
			least = e
			path = sorted[i].Path
		}
	}
	return least, path
}

// entryFault tells the least fault of an entry. The entries ahead of it are enough: a path that it lies under goes ahead of it.
func entryFault(ahead []api.Entry, e api.Entry) api.Errno {
	if !isPath(e.Path) {
		return api.ErrPath
	}
	for i := 0; i < len(ahead); i++ {
		if ahead[i].Path == e.Path {
			return api.ErrTwice
		}
	}
	for i := 0; i < len(ahead); i++ {
		if liesUnder(e.Path, ahead[i].Path) {
			return api.ErrUnder
		}
	}
	if len(e.Body) > api.MaxBody {
		return api.ErrBig
	}
	return api.OK
}

// layPackage lays sorted entries, none of which is at fault, with settings that are not either.
func layPackage(sorted []api.Entry, c api.Config) []byte {
	p := layHead(len(sorted), c)
	for i := 0; i < len(sorted); i++ {
		part := layEntry(sorted[i], len(p), c)
		p = append(p, part...)
	}
	for i := 0; i < len(sorted); i++ {
		sum := Sum(sorted[i].Body)
		laid := fourBytes(sum)
		p = append(p, laid...)
	}
	sum := Sum(p)
	laid := fourBytes(sum)
	p = append(p, laid...)
	tag := tagOf(c.Key, p)
	laid = fourBytes(tag)
	return append(p, laid...)
}

// layHead lays what stands ahead of the entries.
func layHead(count int, c api.Config) []byte {
	packs := byte(0)
	if c.Pack {
		packs = 1
	}
	return []byte{'P', 'L', byte(c.Align), packs, byte(count)}
}

// layEntry lays an entry, beginning at a place of the package, since the noughts hang on where the body comes to lie.
func layEntry(e api.Entry, place int, c api.Config) []byte {
	method, laid := layBody(e.Body, c.Pack)
	part := []byte{byte(len(e.Path))}
	part = append(part, e.Path...)
	part = append(part, byte(method))
	size := twoBytes(len(e.Body))
	part = append(part, size...)
	laidSize := twoBytes(len(laid))
	part = append(part, laidSize...)
	noughts := 0
	if method == api.Stored {
		noughts = noughtsAhead(place+len(part)+1, c.Align)
	}
	part = append(part, byte(noughts))
	for i := 0; i < noughts; i++ {
		part = append(part, 0)
	}
	return append(part, laid...)
}

// layBody gives the method of a body and a fresh list of what is laid of it.
func layBody(body []byte, packs bool) (int, []byte) {
	if packs {
		packed := packBody(body)
		if len(packed) < len(body) {
			return api.Packed, packed
		}
	}
	var stored []byte
	return api.Stored, append(stored, body...)
}

// noughtsAhead tells how many noughts at a place bring what comes behind them to a multiple of the alignment.
func noughtsAhead(place int, align int) int {
	n := 0
	for n < align && (place+n)%align != 0 {
		n++
	}
	return n
}

// twoBytes gives a number in two bytes.
func twoBytes(n int) []byte {
	return []byte{byte(n >> 8), byte(n)}
}

// fourBytes gives a number in four bytes.
func fourBytes(n int) []byte {
	return []byte{byte(n >> 24), byte(n >> 16), byte(n >> 8), byte(n)}
}
