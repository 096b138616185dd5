// Package parcel: packages of files whose bytes hang on what is in them alone: see DOC.md.
package parcel

import "parcel/api"

// Sum is the sum of some bytes (P3).
func Sum(data []byte) int {
	register := allBits
	for i := 0; i < len(data); i++ {
		register = sumStep(register, data[i])
	}
	return register ^ allBits
}

// Tag is the tag of some bytes with a key (P4).
func Tag(key string, data []byte) (int, api.Errno) {
	if !isKey(key) {
		return 0, api.ErrKey
	}
	return tagOf(key, data), api.OK
}

// Pack packs a body (P5).
func Pack(body []byte) ([]byte, api.Errno) {
	if len(body) > api.MaxBody {
		return nil, api.ErrBig
	}
	return packBody(body), api.OK
}

// Unpack gives a body back (P6).
func Unpack(packed []byte) ([]byte, api.Errno) {
	var body []byte
	at := 0
	for at < len(packed) {
		head := int(packed[at])
		size := pieceSize(head)
		if size == 0 || size > len(packed)-at {
			return nil, api.ErrForm
		}
		came := packed[at+1 : at+size]
		if head >= firstCopy {
			d := int(packed[at+1]) + 1
			if d > len(body) {
				return nil, api.ErrForm
			}
			came = copied(body, head-firstCopy+api.MinMatch, d)
		}
		body = append(body, came...)
		if len(body) > api.MaxBody {
			return nil, api.ErrBig
		}
		at += size
	}
	return body, api.OK
}

// Path tells whether a path is one (P7).
func Path(path string) api.Errno {
	if !isPath(path) {
		return api.ErrPath
	}
	return api.OK
}

// Build makes a package (P8, P9).
func Build(entries []api.Entry, c api.Config) ([]byte, api.Errno, string) {
	e := settingsFault(c)
	if e != api.OK {
		return nil, e, ""
	}
	if len(entries) > api.MaxEntries {
		return nil, api.ErrMany, ""
	}
	sorted := sortedEntries(entries)
	e, path := entriesFault(sorted)
	if e != api.OK {
		return nil, e, path
	}
	p := layPackage(sorted, c)
	if len(p) > api.MaxPackage {
		return nil, api.ErrLong, ""
	}
	return p, api.OK, ""
}

// Verify tells what is in a package (P10).
func Verify(p []byte, key string) ([]api.Entry, api.Config, api.Errno) {
	found, e := readPackage(p, key)
	return found.entries, found.config, e
}

// Find gives one body out of a package (P11).
func Find(p []byte, path string, key string) ([]byte, api.Errno) {
	found, e := readPackage(p, key)
	if e != api.OK {
		return nil, e
	}
	for i := 0; i < len(found.entries); i++ {
		if found.entries[i].Path == path {
			return found.entries[i].Body, api.OK
		}
	}
	return nil, api.ErrNone
}

// Replace makes the package with an entry more, or in place of the one of its path (P12).
func Replace(p []byte, e api.Entry, key string) ([]byte, api.Errno, string) {
	found, fault := readPackage(p, key)
	if fault != api.OK {
		return nil, fault, ""
	}
	entries := entriesBut(e.Path, found.entries)
	entries = append(entries, e)
	return Build(entries, found.config)
}

// Drop makes the package without an entry (P13).
func Drop(p []byte, path string, key string) ([]byte, api.Errno) {
	found, e := readPackage(p, key)
	if e != api.OK {
		return nil, e
	}
	others := entriesBut(path, found.entries)
	if len(others) == len(found.entries) {
		return nil, api.ErrNone
	}
	// Fewer entries of a package are neither at fault nor too long: there is nothing for Build to refuse.
	return layPackage(others, found.config), api.OK
}
