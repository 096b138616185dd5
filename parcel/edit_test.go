package parcel_test

import (
	"bytes"
	"fmt"
	"math/rand"
	"slices"
	"strings"
	"testing"

	"parcel/api"
	"parcel/parcel"
)

// placeOf: where the entry of a path stands in a list; -1, if there is none.
func placeOf(entries []api.Entry, path string) int {
	return slices.IndexFunc(entries, func(e api.Entry) bool { return e.Path == path })
}

// slowReplace: what Replace is to answer, by the words of the document.
func slowReplace(p []byte, x api.Entry, key string) ([]byte, fault) {
	entries, c, e := slowVerify(p, key)
	if e != api.OK {
		return nil, fault{e, ""}
	}
	if at := placeOf(entries, x.Path); at >= 0 {
		entries[at] = x
	} else {
		entries = append(entries, x)
	}
	return slowBuild(entries, c)
}

// slowDrop: what Drop is to answer, by the words of the document.
func slowDrop(p []byte, path, key string) ([]byte, api.Errno) {
	entries, c, e := slowVerify(p, key)
	if e != api.OK {
		return nil, e
	}
	at := placeOf(entries, path)
	if at < 0 {
		return nil, api.ErrNone
	}
	return slowPackage(slices.Delete(entries, at, at+1), c), api.OK
}

// checkReplace: that Replace answers as the document says; it tells the package and the fault.
func checkReplace(t *testing.T, p []byte, x api.Entry, key string) ([]byte, fault) {
	t.Helper()
	q, e, path := parcel.Replace(p, x, key)
	got := fault{e, path}
	wantQ, want := slowReplace(p, x, key)
	if got != want || !bytes.Equal(q, wantQ) {
		t.Errorf("P12: Replace(%x, %.50q (%d bytes), %q) = %x, %d, %.50q, want %x, %d, %.50q", p, x.Path, len(x.Body), key, q, e, path, wantQ, want.e, want.path)
	}
	if e != api.OK && q != nil {
		t.Errorf("P1: Replace(%x, %.50q (%d bytes), %q) = %x besides the error %d", p, x.Path, len(x.Body), key, q, e)
	}
	return q, got
}

// expectReplace: that Replace answers as the document says, and with this error and path; it gives the package.
func expectReplace(t *testing.T, p []byte, x api.Entry, key string, e api.Errno, path string) []byte {
	t.Helper()
	q, got := checkReplace(t, p, x, key)
	if want := (fault{e, path}); got != want {
		t.Errorf("P12: Replace(%x, %.50q (%d bytes), %q) = %d, %.50q, want %d, %.50q", p, x.Path, len(x.Body), key, got.e, got.path, e, path)
	}
	return q
}

// checkDrop: that Drop answers as the document says; it tells the package and the error.
func checkDrop(t *testing.T, p []byte, path, key string) ([]byte, api.Errno) {
	t.Helper()
	q, e := parcel.Drop(p, path, key)
	want, f := slowDrop(p, path, key)
	if e != f || !bytes.Equal(q, want) {
		t.Errorf("P13: Drop(%x, %.50q, %q) = %x, %d, want %x, %d", p, path, key, q, e, want, f)
	}
	if e != api.OK && q != nil {
		t.Errorf("P1: Drop(%x, %.50q, %q) = %x besides the error %d", p, path, key, q, e)
	}
	if e == api.OK && len(q) >= len(p) {
		t.Errorf("P13: Drop(%x, %.50q, %q) has %d bytes, and the package %d", p, path, key, len(q), len(p))
	}
	return q, e
}

// expectDrop: that Drop answers as the document says, and with this error; it gives the package.
func expectDrop(t *testing.T, p []byte, path, key string, want api.Errno) []byte {
	t.Helper()
	q, e := checkDrop(t, p, path, key)
	if e != want {
		t.Errorf("P13: Drop(%x, %.50q, %q) = %d, want %d", p, path, key, e, want)
	}
	return q
}

// expectBytes: that an edited package is the package of these entries.
func expectBytes(t *testing.T, q []byte, entries []api.Entry, c api.Config) {
	t.Helper()
	if want := slowPackage(entries, c); !bytes.Equal(q, want) {
		t.Errorf("P12, P13: the package of %swith %+v is %x, want %x", told(entries), c, q, want)
	}
}

// editConfigs: settings that differ in all that a package tells of them.
func editConfigs() []api.Config {
	return []api.Config{{Key: "k", Align: 1}, {Key: "k", Align: 8, Pack: true}, {Key: strings.Repeat("\x00", 16), Align: 16}, {Key: "\xff\x00k", Align: 7, Pack: true}}
}

func TestEditExamples(t *testing.T) {
	for _, c := range editConfigs() {
		p := slowPackage(named("a", "b"), c)
		expectReplace(t, p, api.Entry{Path: "b/c"}, c.Key, api.ErrUnder, "b/c")
		other := api.Entry{Path: "a", Body: []byte("another body")}
		q := expectReplace(t, p, other, c.Key, api.OK, "")
		expectBytes(t, q, append(named("b"), other), c)
		expectDrop(t, p, "c", c.Key, api.ErrNone)
		q = expectDrop(t, p, "a", c.Key, api.OK)
		expectBytes(t, q, named("b"), c)
		q = expectDrop(t, q, "b", c.Key, api.OK)
		expectBytes(t, q, nil, c)
	}
}

// The bytes themselves, so that they hang on no other part of the program, nor on another one of the tests.
func TestEditedBytes(t *testing.T) {
	p := sealed("k", []byte("PL\x04\x01\x02"+part("a", 0, 2, 2, "\x00\x00\x00", "hi")+part("c", 1, 8, 4, "", "\x00a\x84\x00")+sums("hi", "aaaaaaaa")))
	for _, x := range []struct {
		e    api.Entry
		want string
	}{
		{api.Entry{Path: "a", Body: []byte("hello")}, "PL\x04\x01\x02" + part("a", 0, 5, 5, "\x00\x00\x00", "hello") + part("c", 1, 8, 4, "", "\x00a\x84\x00") + sums("hello", "aaaaaaaa")},
		{api.Entry{Path: "a"}, "PL\x04\x01\x02" + part("a", 0, 0, 0, "\x00\x00\x00", "") + part("c", 1, 8, 4, "", "\x00a\x84\x00") + sums("", "aaaaaaaa")},
		{api.Entry{Path: "c", Body: []byte("c")}, "PL\x04\x01\x02" + part("a", 0, 2, 2, "\x00\x00\x00", "hi") + part("c", 0, 1, 1, "\x00\x00", "c") + sums("hi", "c")},
		{api.Entry{Path: "b", Body: []byte("b")}, "PL\x04\x01\x03" + part("a", 0, 2, 2, "\x00\x00\x00", "hi") + part("b", 0, 1, 1, "\x00\x00", "b") + part("c", 1, 8, 4, "", "\x00a\x84\x00") + sums("hi", "b", "aaaaaaaa")},
		{api.Entry{Path: "d", Body: []byte("bbbbbbbbb")}, "PL\x04\x01\x03" + part("a", 0, 2, 2, "\x00\x00\x00", "hi") + part("c", 1, 8, 4, "", "\x00a\x84\x00") + part("d", 1, 9, 4, "", "\x00b\x85\x00") + sums("hi", "aaaaaaaa", "bbbbbbbbb")},
	} {
		q := expectReplace(t, p, x.e, "k", api.OK, "")
		if want := sealed("k", []byte(x.want)); !bytes.Equal(q, want) {
			t.Errorf("P12: Replace of %q = %x, want %x", x.e.Path, q, want)
		}
	}
	for path, inner := range map[string]string{
		"a": "PL\x04\x01\x01" + part("c", 1, 8, 4, "", "\x00a\x84\x00") + sums("aaaaaaaa"),
		"c": "PL\x04\x01\x01" + part("a", 0, 2, 2, "\x00\x00\x00", "hi") + sums("hi"),
	} {
		q := expectDrop(t, p, path, "k", api.OK)
		if want := sealed("k", []byte(inner)); !bytes.Equal(q, want) {
			t.Errorf("P13: Drop of %q = %x, want %x", path, q, want)
		}
	}
}

// refused: packages and keys that Verify refuses, with its error.
type refused struct {
	p   []byte
	key string
	e   api.Errno
}

// refusals: for each error of Verify packages and keys that give it, most of which would give a greater one as well.
func refusals() []refused {
	good := slowPackage(named("a", "b"), api.Config{Key: "k", Align: 4})
	turned := func(p []byte, at int) []byte {
		q := bytes.Clone(p)
		q[at] ^= 1
		return q
	}
	formless := sealed("k", []byte("PL\x00\x00\x00"))
	unsorted := sealed("k", []byte("PL\x01\x00\x02"+part("b", 0, 0, 0, "", "")+part("a", 0, 0, 0, "", "")+sums("", "")))
	return []refused{
		{good, "", api.ErrKey}, {good, strings.Repeat("k", 17), api.ErrKey}, {nil, "", api.ErrKey}, {make([]byte, 4001), "", api.ErrKey},
		{make([]byte, 4001), "k", api.ErrLong}, {sealed("k", make([]byte, 3993)), "k", api.ErrLong}, {slowPackage([]api.Entry{sized("a", 600), sized("b", 600), sized("c", 600), sized("d", 600), sized("e", 600), sized("f", 600), sized("g", 600)}, api.Config{Key: "k", Align: 1}), "k", api.ErrLong},
		{nil, "k", api.ErrShort}, {good[:12], "k", api.ErrShort}, {sealed("k", []byte("PL\x01\x00")), "k", api.ErrShort},
		{turned(good, 0), "k", api.ErrSum}, {turned(good, len(good)-5), "l", api.ErrSum}, {good[1:], "k", api.ErrSum}, {append(bytes.Clone(good), 'x'), "k", api.ErrSum},
		{good, "l", api.ErrTag}, {turned(good, len(good)-1), "k", api.ErrTag}, {formless, "l", api.ErrTag},
		{formless, "k", api.ErrForm}, {unsorted, "k", api.ErrForm}, {sealed("k", []byte("PL\x04\x00\x01")), "k", api.ErrForm}, {sealed("k", append(bytes.Clone(good[:len(good)-8]), 0)), "k", api.ErrForm},
	}
}

// What Verify refuses is refused with its error and the empty path, however good or bad the entry or the path is.
func TestEditOfWhatVerifyRefuses(t *testing.T) {
	for _, x := range refusals() {
		for _, path := range []string{"a", "b", "c", "a/b", "A", "", strings.Repeat("a", 41)} {
			for _, n := range []int{0, 600, 601} {
				expectReplace(t, x.p, sized(path, n), x.key, x.e, "")
			}
			expectDrop(t, x.p, path, x.key, x.e)
		}
	}
}

func TestReplaceFaults(t *testing.T) {
	long := strings.Repeat("a", 41)
	for _, c := range editConfigs() {
		p := slowPackage(named("a-b", "b", "c/d/e", "c/d/f", "z"), c)
		for _, x := range []struct {
			path string
			size int
			e    api.Errno
			told string
		}{
			{"", 0, api.ErrPath, ""}, {"A", 0, api.ErrPath, "A"}, {"b/", 0, api.ErrPath, "b/"}, {"b/..", 601, api.ErrPath, "b/.."}, {"\xff", 601, api.ErrPath, "\xff"}, {long, 0, api.ErrPath, long}, {"b/" + long, 0, api.ErrPath, "b/" + long}, {"c/d/", 0, api.ErrPath, "c/d/"},
			{"b/c", 0, api.ErrUnder, "b/c"}, {"b/c", 601, api.ErrUnder, "b/c"}, {"z/z/z", 0, api.ErrUnder, "z/z/z"}, {"a-b/c", 0, api.ErrUnder, "a-b/c"}, {"c/d/e/f", 0, api.ErrUnder, "c/d/e/f"},
			// Here it is a path of the package that comes to lie under the entry's.
			{"c", 0, api.ErrUnder, "c/d/e"}, {"c/d", 0, api.ErrUnder, "c/d/e"}, {"c", 601, api.ErrUnder, "c/d/e"},
			{"b", 601, api.ErrBig, "b"}, {"z", 602, api.ErrBig, "z"}, {"a", 601, api.ErrBig, "a"}, {"b-", 70000, api.ErrBig, "b-"}, {"c/d/f", 601, api.ErrBig, "c/d/f"},
			{"b", 600, api.OK, ""}, {"b", 0, api.OK, ""}, {"z", 600, api.OK, ""}, {"a", 600, api.OK, ""}, {"bb", 1, api.OK, ""}, {"b-/c", 1, api.OK, ""}, {"c/e", 1, api.OK, ""}, {"c/d.e", 1, api.OK, ""}, {"c-", 1, api.OK, ""}, {long[:40], 600, api.OK, ""}, {"...", 0, api.OK, ""},
		} {
			expectReplace(t, p, sized(x.path, x.size), c.Key, x.e, x.told)
		}
	}
}

// In a full package there is room for another body, but for no other path, however bad that is.
func TestReplaceInAFullPackage(t *testing.T) {
	for _, c := range editConfigs() {
		full := letters(20)
		p := slowPackage(full, c)
		for i, x := range full {
			q := expectReplace(t, p, sized(x.Path, 50), c.Key, api.OK, "")
			expectBytes(t, q, append(append(full[:i:i], full[i+1:]...), sized(x.Path, 50)), c)
			expectReplace(t, p, sized(x.Path, 601), c.Key, api.ErrBig, x.Path)
			expectReplace(t, p, sized(x.Path+"/a", 601), c.Key, api.ErrMany, "")
			q = expectDrop(t, p, x.Path, c.Key, api.OK)
			q = expectReplace(t, q, x, c.Key, api.OK, "")
			expectBytes(t, q, full, c)
		}
		for _, path := range []string{"a", "0", "zz", "A", "", "z/"} {
			expectReplace(t, p, sized(path, 1), c.Key, api.ErrMany, "")
			expectReplace(t, p, sized(path, 601), c.Key, api.ErrMany, "")
		}
		p = slowPackage(full[:19], c)
		expectReplace(t, p, sized("a", 1), c.Key, api.OK, "")
		expectReplace(t, p, sized("A", 1), c.Key, api.ErrPath, "A")
	}
}

// Up to the greatest length an entry is taken, at whatever place; one byte above it is not.
func TestReplaceInTheGreatestPackages(t *testing.T) {
	for align := 1; align <= api.MaxAlign; align++ {
		c := api.Config{Key: "k", Align: align}
		entries := []api.Entry{sized("a", 600), sized("b", 599), sized("c", 600), sized("d", 598), sized("e", 600), sized("f", 600)}
		p := slowPackage(entries, c)
		greatest := api.MaxPackage - len(slowPackage(append(entries[:6:6], sized("g", 0)), c))
		q := expectReplace(t, p, sized("g", greatest), c.Key, api.OK, "")
		if len(q) != api.MaxPackage {
			t.Errorf("P12: with the alignment %d the greatest package has %d bytes", align, len(q))
		}
		for _, n := range []int{greatest + 1, greatest + 16, 600} {
			expectReplace(t, p, sized("g", n), c.Key, api.ErrLong, "")
			expectReplace(t, q, sized("g", n), c.Key, api.ErrLong, "")
		}
		expectReplace(t, q, sized("g", 601), c.Key, api.ErrBig, "g")
		expectReplace(t, q, sized("g/h", 601), c.Key, api.ErrUnder, "g/h")
		expectReplace(t, q, api.Entry{Path: "0"}, c.Key, api.ErrLong, "")
		expectReplace(t, q, sized("f", 550), c.Key, api.OK, "")
		// A byte more: whether there is room hangs on the noughts behind it.
		checkReplace(t, q, sized("b", 600), c.Key)
		for _, e := range entries {
			expectDrop(t, q, e.Path, c.Key, api.OK)
		}
		again := expectDrop(t, q, "g", c.Key, api.OK)
		expectBytes(t, again, entries, c)
	}
}

func TestDropOfPaths(t *testing.T) {
	for _, c := range editConfigs() {
		entries := []api.Entry{sized("b", 600), sized("a/b", 10), {Path: "c", Body: bytes.Repeat([]byte("c"), 600)}, {Path: "d"}, {Path: strings.Repeat("e", 40), Body: []byte("e")}, sized("a/c", 3), sized("a-", 3)}
		p := slowPackage(entries, c)
		for i, x := range entries {
			q := expectDrop(t, p, x.Path, c.Key, api.OK)
			expectBytes(t, q, append(entries[:i:i], entries[i+1:]...), c)
			expectDrop(t, q, x.Path, c.Key, api.ErrNone)
			q = expectReplace(t, q, x, c.Key, api.OK, "")
			expectBytes(t, q, entries, c)
		}
		// A path that others lie under is none of theirs, and nor is one that lies under another.
		for _, path := range []string{"", "a", "a/", "a/b/", "a/b/c", "a/bb", "/b", "b/", "b/c", "B", "bb", "b ", "\x00", "..", "e", strings.Repeat("e", 39), strings.Repeat("e", 41), strings.Repeat("e", 1000000), "f"} {
			expectDrop(t, p, path, c.Key, api.ErrNone)
		}
		for _, path := range []string{"", "a"} {
			expectDrop(t, slowPackage(nil, c), path, c.Key, api.ErrNone)
		}
	}
}

// Whatever comes behind what is dropped, its noughts are made anew, and the package gets shorter.
func TestDropAlignsAnew(t *testing.T) {
	for align := 1; align <= api.MaxAlign; align++ {
		for n := range 40 {
			for _, c := range []api.Config{{Key: "k", Align: align}, {Key: "k", Align: align, Pack: true}} {
				entries := []api.Entry{sized("a", 5), {Path: "b" + strings.Repeat("b", n%7), Body: patternless(n)}, sized("c", 20), {Path: "d", Body: []byte("aaaaaaaa")}, {Path: "e"}}
				p := slowPackage(entries, c)
				for i, x := range entries {
					q := expectDrop(t, p, x.Path, c.Key, api.OK)
					expectBytes(t, q, append(entries[:i:i], entries[i+1:]...), c)
				}
			}
		}
	}
}

// A package that is put together and taken apart by edits has the bytes that Build gives, in whatever order that is done.
func TestEditsHangNotOnTheOrder(t *testing.T) {
	r := rand.New(rand.NewSource(13))
	for _, c := range editConfigs() {
		for range 30 {
			entries := named("a", "a-", "a.b/c", "aa", "b/a", "b/b", "b-", "c/d/e", "c/d.e", "z", "_", "...")
			r.Shuffle(len(entries), func(i, k int) { entries[i], entries[k] = entries[k], entries[i] })
			p, e, _ := parcel.Build(nil, c)
			for i, x := range entries {
				if e == api.OK {
					p, e, _ = parcel.Replace(p, x, c.Key)
				}
				if want, _, _ := parcel.Build(entries[:i+1], c); e != api.OK || !bytes.Equal(p, want) {
					t.Fatalf("P12: put together of %s: %x, %d, want %x", told(entries[:i+1]), p, e, want)
				}
			}
			r.Shuffle(len(entries), func(i, k int) { entries[i], entries[k] = entries[k], entries[i] })
			for i, x := range entries {
				p, e = parcel.Drop(p, x.Path, c.Key)
				if want, _, _ := parcel.Build(entries[i+1:], c); e != api.OK || !bytes.Equal(p, want) {
					t.Fatalf("P13: taken apart to %s: %x, %d, want %x", told(entries[i+1:]), p, e, want)
				}
			}
		}
	}
}

// A key with the same tag is taken, and the package that comes out is the one with that key.
func TestEditWithAnotherKeyOfTheSameTag(t *testing.T) {
	c := api.Config{Key: "apple", Align: 4, Pack: true}
	other := otherKey(c.Key)
	p := slowPackage(named("a", "b/c"), c)
	q := expectReplace(t, p, named("d")[0], other, api.OK, "")
	expectBytes(t, q, named("a", "b/c", "d"), api.Config{Key: other, Align: 4, Pack: true})
	q = expectDrop(t, p, "a", other, api.OK)
	expectBytes(t, q, named("b/c"), api.Config{Key: other, Align: 4, Pack: true})
}

// An edit leaves the other bodies as they are, as Verify and Find tell.
func TestEditLeavesTheOthers(t *testing.T) {
	for _, c := range editConfigs() {
		p := slowPackage([]api.Entry{sized("a", 300), {Path: "b", Body: bytes.Repeat([]byte("ab"), 300)}, {Path: "c"}}, c)
		q, e, _ := parcel.Replace(p, api.Entry{Path: "b", Body: []byte("new")}, c.Key)
		if e != api.OK {
			t.Fatalf("P12: Replace = %d", e)
		}
		expectFind(t, q, "a", c.Key, patternless(300), api.OK)
		expectFind(t, q, "b", c.Key, []byte("new"), api.OK)
		expectFind(t, q, "c", c.Key, nil, api.OK)
		q, e = parcel.Drop(q, "a", c.Key)
		if e != api.OK {
			t.Fatalf("P13: Drop = %d", e)
		}
		expectFind(t, q, "a", c.Key, nil, api.ErrNone)
		entries, d, e := parcel.Verify(q, c.Key)
		if want := []api.Entry{{Path: "b", Body: []byte("new")}, {Path: "c"}}; e != api.OK || d != c || !sameEntries(entries, want) {
			t.Errorf("P13: what is left of the package: %s, %+v, %d, want %s, %+v", told(entries), d, e, told(want), c)
		}
	}
}

// A package is edited many times over, as long as it stays one.
func TestRandomEdits(t *testing.T) {
	r := rand.New(rand.NewSource(14))
	var replaced, dropped [api.ErrNone + 1]int
	for n := range 72 {
		c := randomConfig(r)
		if len(c.Key) < 1 || len(c.Key) > 16 || c.Align < 1 || c.Align > 16 {
			c = api.Config{Key: "k", Align: 1 + n%16, Pack: n%2 == 0}
		}
		p := slowPackage(nil, c)
		limit := []int{20, 60, 600}[n%3]
		for step := range 40 {
			path := randomPath(r)
			if n%4 == 0 {
				path = fmt.Sprintf("%d-%s", step*7%31, path)
			}
			q, f := checkReplace(t, p, api.Entry{Path: path, Body: randomBytes(r, randomSize(r, limit), 1<<r.Intn(9))}, c.Key)
			replaced[f.e]++
			if f.e == api.OK {
				p = q
			}
			if r.Intn(3) == 0 {
				q, e := checkDrop(t, p, droppedPath(r, p, c.Key), c.Key)
				dropped[e]++
				if e == api.OK {
					p = q
				}
			}
			if t.Failed() {
				return
			}
		}
	}
	for _, e := range []api.Errno{api.OK, api.ErrMany, api.ErrPath, api.ErrUnder, api.ErrBig, api.ErrLong} {
		if replaced[e] < 5 {
			t.Errorf("the random edits meet the answer %d of Replace only %d times", e, replaced[e])
		}
	}
	if dropped[api.OK] < 50 || dropped[api.ErrNone] < 50 {
		t.Errorf("the random edits meet the answers of Drop only %d times", dropped)
	}
}

// droppedPath: half of the time one of the package's.
func droppedPath(r *rand.Rand, p []byte, key string) string {
	entries, _, _ := slowVerify(p, key)
	if len(entries) == 0 || r.Intn(2) == 0 {
		return randomPath(r)
	}
	return entries[r.Intn(len(entries))].Path
}

// Edits of bytes that have a right sum and tag, be they packages or not.
func TestEditOfChangedAndSealedBytes(t *testing.T) {
	var seen [api.ErrNone + 1]int
	for _, inner := range smallPackages() {
		for at := range inner {
			for _, by := range []byte{1, 2, 3, 4, 7, 16, 32, 128} {
				q := bytes.Clone(inner)
				q[at] ^= by
				p := sealed("k", q)
				_, f := checkReplace(t, p, api.Entry{Path: "b", Body: []byte("other")}, "k")
				seen[f.e]++
				checkDrop(t, p, "b", "k")
			}
		}
	}
	if seen[api.OK] < 20 || seen[api.ErrForm] < 50 {
		t.Errorf("what was changed meets the answers only %d times", seen)
	}
}

// FuzzEdit's bytes are those ahead of the sum and the tag, and once more those of the whole package.
func FuzzEdit(f *testing.F) {
	for _, inner := range smallPackages() {
		f.Add(inner, "k", "b", []byte("other"))
	}
	f.Fuzz(func(t *testing.T, inner []byte, key, path string, body []byte) {
		for _, p := range [][]byte{inner, sealed(key, inner)} {
			checkReplace(t, p, api.Entry{Path: path, Body: body}, key)
			checkDrop(t, p, path, key)
		}
	})
}
