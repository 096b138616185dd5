package parcel

import "parcel/api"

// isPath tells whether a path is one.
func isPath(path string) bool {
	// The length comes first, so that a very long path is not gone along.
	if len(path) > api.MaxPath {
		return false
	}
	start := 0
	for i := 0; i < len(path); i++ {
		if path[i] != '/' {
			continue
		}
		if !isPathPiece(path[start:i]) {
			return false
		}
		start = i + 1
	}
	return isPathPiece(path[start:])
}

// isPathPiece tells whether a piece may stand between the slashes of a path.
func isPathPiece(piece string) bool {
	if piece == "" || piece == "." || piece == ".." {
		return false
	}
	for i := 0; i < len(piece); i++ {
		if !isPieceByte(piece[i]) {
			return false
		}
	}
	return true
}

// isPieceByte tells whether a byte may stand in a piece of a path.
func isPieceByte(b byte) bool {
	if b >= 'a' && b <= 'z' || b >= '0' && b <= '9' {
		return true
	}
	return b == '.' || b == '-' || b == '_'
}

// liesUnder tells whether a path lies under another one.
func liesUnder(path string, other string) bool {
	n := len(other)
	return len(path) > n && path[n] == '/' && path[:n] == other
}
