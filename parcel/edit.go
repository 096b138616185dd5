package parcel

import "parcel/api"

// entriesBut gives the entries but the one of a path, in their order, in a list of its own.
func entriesBut(path string, entries []api.Entry) []api.Entry {
	var others []api.Entry
	for i := 0; i < len(entries); i++ {
		if entries[i].Path != path {
			others = append(others, entries[i])
		}
	}
	return others
}
