package parcel_test

import (
	"math/rand"
	"regexp"
	"strings"
	"testing"

	"parcel/api"
	"parcel/parcel"
)

var goodBytes = regexp.MustCompile(`^[a-z0-9._/-]+$`)

// slowPath: whether a path is one, by the words of the document.
func slowPath(path string) api.Errno {
	if len(path) > api.MaxPath || !goodBytes.MatchString(path) || strings.HasSuffix(path, "\n") {
		return api.ErrPath
	}
	for _, piece := range strings.Split(path, "/") {
		if piece == "" || piece == "." || piece == ".." {
			return api.ErrPath
		}
	}
	return api.OK
}

func TestPathsThatAreGood(t *testing.T) {
	for _, path := range []string{
		"a", "z", "0", "9", "-", "_", "a/b.c", "...", "....", ".a", "a.", "..a", "a..", "a/...", ".../a", "-/_", "a/b/c/d",
		strings.Repeat("a", api.MaxPath), strings.Repeat("a/", api.MaxPath/2-1) + "ab",
	} {
		if e := parcel.Path(path); e != api.OK {
			t.Errorf("P7: Path(%q) = %d", path, e)
		}
	}
}

func TestPathsThatAreNone(t *testing.T) {
	for _, path := range []string{
		"", "/", "//", "/a", "a/", "a//b", ".", "..", "./a", "../a", "a/.", "a/..", "a/./b", "a/../b",
		"A", "Z", "a b", "a\x00", "\x00", "é", "a\n", "\xff", "a\\b",
		strings.Repeat("a", api.MaxPath+1), strings.Repeat("a/", api.MaxPath/2), strings.Repeat("a/", api.MaxPath/2) + "a",
		strings.Repeat("a", 3000000), strings.Repeat("/", 3000000),
	} {
		if e := parcel.Path(path); e != api.ErrPath {
			t.Errorf("P7: Path(%.60q) = %d", path, e)
		}
	}
}

func TestPathOfEachByte(t *testing.T) {
	for b := range 256 {
		for _, around := range [][2]string{{"", ""}, {"a", ""}, {"", "a"}, {"a", "b"}, {"a/", "/b"}, {".", ""}} {
			path := around[0] + string([]byte{byte(b)}) + around[1]
			if e, want := parcel.Path(path), slowPath(path); e != want {
				t.Errorf("P7: Path(%q) = %d, want %d", path, e, want)
			}
		}
	}
}

// checkAllPaths goes through the paths of up to n bytes more, of a few telling bytes.
func checkAllPaths(t *testing.T, path string, n int) {
	if e, want := parcel.Path(path), slowPath(path); e != want {
		t.Errorf("P7: Path(%q) = %d, want %d", path, e, want)
	}
	if n == 0 {
		return
	}
	for _, b := range []string{"a", ".", "/", "A"} {
		checkAllPaths(t, path+b, n-1)
	}
}

func TestPathOfAllShortPaths(t *testing.T) {
	checkAllPaths(t, "", 7)
}

func TestPathOfLongPaths(t *testing.T) {
	r := rand.New(rand.NewSource(7))
	const telling = "aaaaaaaaz09._-bcdefghij/."
	for range 20000 {
		path := make([]byte, 30+r.Intn(15))
		for i := range path {
			path[i] = telling[r.Intn(len(telling))]
		}
		if e, want := parcel.Path(string(path)), slowPath(string(path)); e != want {
			t.Fatalf("P7: Path(%q) = %d, want %d", path, e, want)
		}
	}
}
