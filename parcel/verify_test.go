package parcel_test

import (
	"bytes"
	"encoding/binary"
	"encoding/hex"
	"hash/crc32"
	"math/rand"
	"slices"
	"strings"
	"testing"

	"parcel/api"
	"parcel/parcel"
)

// slowVerify: what Verify is to answer, by the words of the document: each rule is looked at by itself, and no package is made anew.
func slowVerify(p []byte, key string) ([]api.Entry, api.Config, api.Errno) {
	switch {
	case len(key) < 1 || len(key) > 16:
		return nil, api.Config{}, api.ErrKey
	case len(p) > 4000:
		return nil, api.Config{}, api.ErrLong
	case len(p) < 13:
		return nil, api.Config{}, api.ErrShort
	}
	inner := p[:len(p)-8]
	if binary.BigEndian.Uint32(p[len(p)-8:]) != crc32.ChecksumIEEE(inner) {
		return nil, api.Config{}, api.ErrSum
	}
	if binary.BigEndian.Uint32(p[len(p)-4:]) != uint32(slowTag(key, p[:len(p)-4])) {
		return nil, api.Config{}, api.ErrTag
	}
	c := api.Config{Key: key, Align: int(inner[2]), Pack: inner[3] == 1}
	entries, good := slowForm(inner, c)
	if !good {
		return nil, api.Config{}, api.ErrForm
	}
	return entries, c, api.OK
}

// slowForm: the entries of which all ahead of a package's last eight bytes is made; false, if there are none.
func slowForm(inner []byte, c api.Config) ([]api.Entry, bool) {
	if string(inner[:2]) != "PL" || c.Align < 1 || c.Align > 16 || inner[3] > 1 || inner[4] > 20 {
		return nil, false
	}
	var entries []api.Entry
	at := 5
	for range int(inner[4]) {
		e, end, good := slowReadEntry(inner, at, c)
		if !good {
			return nil, false
		}
		for _, ahead := range entries {
			if !lessString(ahead.Path, e.Path) || strings.HasPrefix(e.Path, ahead.Path+"/") {
				return nil, false
			}
		}
		entries = append(entries, e)
		at = end
	}
	var sums []byte
	for _, e := range entries {
		sums = binary.BigEndian.AppendUint32(sums, crc32.ChecksumIEEE(e.Body))
	}
	return entries, bytes.Equal(inner[at:], sums)
}

// slowReadEntry: the entry at a place, and where it ends; false, if no good one stands there.
func slowReadEntry(inner []byte, at int, c api.Config) (e api.Entry, end int, good bool) {
	whole := true
	take := func(n int) []byte {
		if !whole || len(inner)-at < n {
			whole = false
			return make([]byte, n)
		}
		at += n
		return inner[at-n : at]
	}
	e.Path = string(take(int(take(1)[0])))
	method := take(1)[0]
	size := int(binary.BigEndian.Uint16(take(2)))
	laidSize := int(binary.BigEndian.Uint16(take(2)))
	noughts := take(int(take(1)[0]))
	place := at
	laid := take(laidSize)
	if !whole || slowPath(e.Path) != api.OK || size > 600 || bytes.ContainsFunc(noughts, func(r rune) bool { return r != 0 }) {
		return e, 0, false
	}
	switch method {
	case 0:
		e.Body = bytes.Clone(laid)
		shorter := c.Pack && len(packedOnce(laid)) < len(laid)
		good = place%c.Align == 0 && len(noughts) < c.Align && !shorter
	case 1:
		body, f := slowUnpack(laid)
		e.Body = body
		good = f == api.OK && c.Pack && len(noughts) == 0 && len(laid) < len(body) && bytes.Equal(packedOnce(body), laid)
	}
	return e, at, good && len(e.Body) == size
}

// sameEntries: whether two lists have the same entries in the same order.
func sameEntries(l, m []api.Entry) bool {
	return slices.EqualFunc(l, m, func(a, b api.Entry) bool { return a.Path == b.Path && bytes.Equal(a.Body, b.Body) })
}

// checkVerify: that Verify and Find answer as the document says; it tells the error.
func checkVerify(t *testing.T, p []byte, key string) api.Errno {
	t.Helper()
	entries, c, e := parcel.Verify(p, key)
	want, d, f := slowVerify(p, key)
	if e != f || c != d || !sameEntries(entries, want) {
		t.Errorf("P10: Verify(%x, %q) = %s, %+v, %d, want %s, %+v, %d", p, key, told(entries), c, e, told(want), d, f)
	}
	if e != api.OK && entries != nil {
		t.Errorf("P1: Verify(%x, %q) = %s besides the error %d", p, key, told(entries), e)
	}
	if e != api.OK {
		expectFind(t, p, "a", key, nil, f)
		return e
	}
	for _, x := range want {
		expectFind(t, p, x.Path, key, x.Body, api.OK)
	}
	expectFind(t, p, "not-there", key, nil, api.ErrNone)
	return e
}

// expectFind: that Find gives this body and error.
func expectFind(t *testing.T, p []byte, path, key string, want []byte, f api.Errno) {
	t.Helper()
	body, e := parcel.Find(p, path, key)
	if e != f || !bytes.Equal(body, want) {
		t.Errorf("P11: Find(%x, %.50q, %q) = %q, %d, want %q, %d", p, path, key, body, e, want, f)
	}
	if e != api.OK && body != nil {
		t.Errorf("P1: Find(%x, %.50q, %q) = %q besides the error %d", p, path, key, body, e)
	}
}

// expectVerify: that Verify answers as the document says, and with this error.
func expectVerify(t *testing.T, p []byte, key string, want api.Errno) {
	t.Helper()
	if e := checkVerify(t, p, key); e != want {
		t.Errorf("P10: Verify(%x, %q) = %d, want %d", p, key, e, want)
	}
}

// expectTaken: that a package of entries is made by the document's words, and that Verify gives them back, sorted.
func expectTaken(t *testing.T, entries []api.Entry, c api.Config) {
	t.Helper()
	p := slowPackage(entries, c)
	sorted := slices.Clone(entries)
	slices.SortFunc(sorted, func(a, b api.Entry) int { return strings.Compare(a.Path, b.Path) })
	got, d, e := parcel.Verify(p, c.Key)
	if e != api.OK || d != c || !sameEntries(got, sorted) {
		t.Errorf("P10: Verify of the package of %swith %+v = %s, %+v, %d", told(entries), c, told(got), d, e)
	}
	expectVerify(t, p, c.Key, api.OK)
}

func TestVerifyOfExamples(t *testing.T) {
	aaa := bytes.Repeat([]byte("a"), 68)
	for _, c := range []struct {
		p       string // in hexadecimal numbers
		entries []api.Entry
		config  api.Config
	}{
		{"504c040000" + "28fa778f" + "519b9064", nil, api.Config{Key: "k", Align: 4}},
		{"504c080001" + "0161" + "00" + "0002" + "0002" + "03000000" + "6869" + "d8932aac" + "6540b4ea" + "2fe744ab", []api.Entry{{Path: "a", Body: []byte("hi")}}, api.Config{Key: "k", Align: 8}},
		{"504c080101" + "0161" + "01" + "0044" + "0006" + "00" + "0061bf000061" + "0b9a4326" + "02d2d5ad" + "ff5cde04", []api.Entry{{Path: "a", Body: aaa}}, api.Config{Key: "k", Align: 8, Pack: true}},
	} {
		p, _ := hex.DecodeString(c.p)
		entries, config, e := parcel.Verify(p, "k")
		if e != api.OK || config != c.config || !sameEntries(entries, c.entries) {
			t.Errorf("P10: Verify(%x) = %s, %+v, %d, want %s, %+v", p, told(entries), config, e, told(c.entries), c.config)
		}
		expectTaken(t, c.entries, c.config)
	}
}

func TestVerifyOfAllSettings(t *testing.T) {
	entries := []api.Entry{sized("b/c", 40), sized("a", 3), {Path: "b-", Body: []byte("aaaaaaaa")}, sized("c", 0)}
	for _, packs := range []bool{false, true} {
		for align := 1; align <= api.MaxAlign; align++ {
			expectTaken(t, entries, api.Config{Key: "k", Align: align, Pack: packs})
			expectTaken(t, nil, api.Config{Key: "k", Align: align, Pack: packs})
		}
		for n := 1; n <= api.MaxKey; n++ {
			expectTaken(t, entries, api.Config{Key: strings.Repeat("\xff", n), Align: 4, Pack: packs})
		}
		for b := range 256 {
			expectTaken(t, entries, api.Config{Key: string([]byte{byte(b)}), Align: 4, Pack: packs})
		}
	}
}

func TestVerifyOfManyEntries(t *testing.T) {
	for n := range api.MaxEntries + 1 {
		expectTaken(t, letters(n), api.Config{Key: "k", Align: 5})
		expectTaken(t, letters(n), api.Config{Key: "k", Align: 16, Pack: true})
	}
	for _, n := range []int{21, 22, 25} {
		expectVerify(t, slowPackage(letters(n), api.Config{Key: "k", Align: 1}), "k", api.ErrForm)
	}
	var many []api.Entry
	for n := range 255 {
		many = append(many, api.Entry{Path: string(rune('a'+n/16)) + string(rune('a'+n%16))})
	}
	for _, n := range []int{200, 255} { // more than what a package can hold, whose bytes are few enough
		expectVerify(t, slowPackage(many[:n], api.Config{Key: "k", Align: 1}), "k", api.ErrForm)
	}
}

func TestVerifyOfBodies(t *testing.T) {
	for _, packs := range []bool{false, true} {
		for _, n := range []int{0, 1, 2, 3, 4, 5, 127, 128, 129, 255, 256, 257, 511, 512, 599, 600} {
			expectTaken(t, []api.Entry{sized("b", n), {Path: "a", Body: bytes.Repeat([]byte("x"), n)}, sized("c", 600-n)}, api.Config{Key: "k", Align: 3, Pack: packs})
		}
		// What is too long for a body is none, though all else is right.
		for _, n := range []int{601, 602, 767, 768, 2000} {
			expectVerify(t, slowPackage([]api.Entry{sized("a", n)}, api.Config{Key: "k", Align: 3, Pack: packs}), "k", api.ErrForm)
			expectVerify(t, slowPackage([]api.Entry{{Path: "a", Body: make([]byte, n)}}, api.Config{Key: "k", Align: 3, Pack: packs}), "k", api.ErrForm)
		}
	}
}

// At the greatest length a package is one, and one byte above it is not.
func TestVerifyOfTheGreatestPackages(t *testing.T) {
	for align := 1; align <= api.MaxAlign; align += 5 {
		c := api.Config{Key: "k", Align: align}
		entries := []api.Entry{sized("a", 600), sized("b", 599), sized("c", 600), sized("d", 598), sized("e", 600), sized("f", 600)}
		greatest := api.MaxPackage - len(slowPackage(append(entries[:6:6], sized("g", 0)), c))
		expectTaken(t, append(entries[:6:6], sized("g", greatest-1)), c)
		expectTaken(t, append(entries[:6:6], sized("g", greatest)), c)
		expectVerify(t, slowPackage(append(entries[:6:6], sized("g", greatest+1)), c), "k", api.ErrLong)
	}
	var l []api.Entry
	for i := range api.MaxEntries {
		l = append(l, api.Entry{Path: strings.Repeat(string(rune('a'+i)), api.MaxPath), Body: bytes.Repeat([]byte{byte(i)}, api.MaxBody)})
	}
	expectTaken(t, l, api.Config{Key: "k", Align: 16, Pack: true})
}

// Each error goes ahead of those that are named behind it.
func TestVerifyTellsTheFirstError(t *testing.T) {
	good := slowPackage(named("a", "b"), api.Config{Key: "k", Align: 4})
	least := slowPackage(nil, api.Config{Key: "k", Align: 4})
	turned := func(p []byte, at int) []byte {
		q := bytes.Clone(p)
		q[at] ^= 1
		return q
	}
	long := sealed("k", make([]byte, 3993))
	short := sealed("k", []byte("PL\x04\x00"))
	formless := sealed("k", []byte("PL\x11\x00\x00"))
	for _, c := range []struct {
		p   []byte
		key string
		e   api.Errno
	}{
		{good, "k", api.OK}, {least, "k", api.OK},
		{good, "", api.ErrKey}, {good, strings.Repeat("k", 17), api.ErrKey}, {good, strings.Repeat("k", 100000), api.ErrKey}, {nil, "", api.ErrKey}, {long, "", api.ErrKey}, {turned(good, 0), "", api.ErrKey}, {formless, "", api.ErrKey},
		{long, "k", api.ErrLong}, {turned(long, 0), "k", api.ErrLong}, {long, "l", api.ErrLong}, {make([]byte, 1000000), "k", api.ErrLong}, {make([]byte, 4001), "k", api.ErrLong}, {append(make([]byte, 1), slowPackage(letters(20), api.Config{Key: "k", Align: 1})...), "k", api.ErrSum},
		{short, "k", api.ErrShort}, {turned(short, 0), "k", api.ErrShort}, {short, "l", api.ErrShort}, {nil, "k", api.ErrShort}, {[]byte{}, "k", api.ErrShort}, {least[:12], "k", api.ErrShort}, {make([]byte, 12), "k", api.ErrShort},
		{make([]byte, 13), "k", api.ErrSum}, {make([]byte, 4000), "k", api.ErrSum}, {turned(good, 0), "k", api.ErrSum}, {turned(good, 0), "l", api.ErrSum}, {turned(turned(good, 0), len(good)-1), "k", api.ErrSum}, {turned(formless, 4), "k", api.ErrSum}, {turned(good, len(good)-8), "k", api.ErrSum}, {turned(good, len(good)-5), "k", api.ErrSum}, {good[1:], "k", api.ErrSum}, {good[:len(good)-1], "k", api.ErrSum},
		{good, "l", api.ErrTag}, {good, "kk", api.ErrTag}, {formless, "l", api.ErrTag}, {turned(formless, 12), "k", api.ErrTag}, {turned(good, len(good)-1), "k", api.ErrTag}, {turned(good, len(good)-4), "k", api.ErrTag},
		{formless, "k", api.ErrForm}, {sealed("k", make([]byte, 5)), "k", api.ErrForm}, {sealed("k", make([]byte, 3992)), "k", api.ErrForm},
	} {
		expectVerify(t, c.p, c.key, c.e)
	}
	for n := range 13 {
		expectVerify(t, sealed("k", make([]byte, 13))[:n], "k", api.ErrShort)
		expectVerify(t, make([]byte, n), "", api.ErrKey)
	}
}

// Any one byte turned into any other is found, and none is found in another's place.
func TestVerifyOfOneByteTurned(t *testing.T) {
	p := slowPackage([]api.Entry{sized("b", 9), {Path: "a", Body: []byte("aaaaaaaaab")}, {Path: "a-"}}, api.Config{Key: "k", Align: 4, Pack: true})
	for at := range p {
		want := api.ErrSum
		if at >= len(p)-4 {
			want = api.ErrTag
		}
		for by := 1; by < 256; by++ {
			q := bytes.Clone(p)
			q[at] ^= byte(by)
			entries, c, e := parcel.Verify(q, "k")
			if e != want || entries != nil || c != (api.Config{}) {
				t.Fatalf("P10: Verify of %x with byte %d turned into %x = %s, %+v, %d, want %d", p, at, q[at], told(entries), c, e, want)
			}
			expectFind(t, q, "a", "k", nil, want)
		}
	}
}

// smallPackages: what stands ahead of the last eight bytes of a few.
func smallPackages() [][]byte {
	var l [][]byte
	for _, c := range []api.Config{{Key: "k", Align: 1}, {Key: "k", Align: 1, Pack: true}, {Key: "k", Align: 8}, {Key: "k", Align: 16, Pack: true}} {
		for _, entries := range [][]api.Entry{
			nil, named("b"), {{Path: "a"}, {Path: "b", Body: []byte("aaaaaaaa")}},
			{{Path: "a", Body: []byte("abcabcabcabcd")}, sized("a-b", 7), {Path: "a.b"}, {Path: "b/c", Body: []byte("abcabcabcabcd")}},
		} {
			p := slowPackage(entries, c)
			l = append(l, p[:len(p)-8])
		}
	}
	return l
}

// Where the sum and the tag are right, all hangs on the form; some of what was changed is a package of something else.
func TestVerifyOfChangedAndSealedBytes(t *testing.T) {
	var seen [api.ErrNone + 1]int
	try := func(inner []byte) {
		seen[checkVerify(t, sealed("k", inner), "k")]++
	}
	for _, inner := range smallPackages() {
		for at := range inner {
			for by := 1; by < 256; by++ {
				q := bytes.Clone(inner)
				q[at] ^= byte(by)
				try(q)
			}
			try(slices.Delete(bytes.Clone(inner), at, at+1))
			for _, b := range []byte{0, 1, inner[at], 'a', 255} {
				try(slices.Insert(bytes.Clone(inner), at, b))
			}
			try(inner[:at])
			try(append(bytes.Clone(inner), inner[at:]...))
		}
		for _, behind := range []string{"\x00", "\x00\x00\x00\x00", "PL", "\x01a\x00\x00\x00\x00\x00\x00"} {
			try(append(bytes.Clone(inner), behind...))
		}
	}
	for _, e := range []api.Errno{api.OK, api.ErrShort, api.ErrForm} {
		if seen[e] < 50 {
			t.Errorf("what was changed meets the answer %d only %d times", e, seen[e])
		}
	}
}

// part: an entry as it is laid, right or wrong.
func part(path string, method byte, size, laidSize int, noughts string, laid string) string {
	b := append([]byte{byte(len(path))}, path...)
	b = append(b, method)
	b = binary.BigEndian.AppendUint16(b, uint16(size))
	b = binary.BigEndian.AppendUint16(b, uint16(laidSize))
	b = append(b, byte(len(noughts)))
	return string(b) + noughts + laid
}

// sums: those of some bodies, as they are laid.
func sums(bodies ...string) string {
	var b []byte
	for _, body := range bodies {
		b = binary.BigEndian.AppendUint32(b, crc32.ChecksumIEEE([]byte(body)))
	}
	return string(b)
}

func TestVerifyOfForms(t *testing.T) {
	eight := "aaaaaaaa"
	x600, x601 := strings.Repeat("x", 600), strings.Repeat("x", 601)
	p600 := "\x00x" + strings.Repeat("\xbf\x00", 9) + "\x82\x00"
	p601 := "\x00x" + strings.Repeat("\xbf\x00", 9) + "\x83\x00"
	long40, long41 := strings.Repeat("p", 40), strings.Repeat("p", 41)
	one, two, plain, packs := "PL\x01\x00\x01", "PL\x01\x00\x02", "PL\x04\x00\x01", "PL\x04\x01\x01"
	for _, c := range []struct {
		inner string
		e     api.Errno
	}{
		// The first five bytes.
		{"PL\x01\x00\x00", api.OK}, {"PL\x10\x01\x00", api.OK}, {"PL\x00\x00\x00", api.ErrForm}, {"PL\x11\x00\x00", api.ErrForm}, {"PL\xff\x00\x00", api.ErrForm}, {"PL\x01\x02\x00", api.ErrForm}, {"PL\x01\xff\x00", api.ErrForm}, {"pL\x01\x00\x00", api.ErrForm}, {"Pl\x01\x00\x00", api.ErrForm}, {"LP\x01\x00\x00", api.ErrForm},
		{"PL\x01\x00\x01", api.ErrForm}, {"PL\x01\x00\xff", api.ErrForm}, {"PL\x01\x00\x00\x00", api.ErrForm}, {"PL\x01\x00\x00" + sums(""), api.ErrForm},
		// Alignment: the body of the first entry of a path of one byte begins at 13, or, with noughts, behind it.
		{one + part("a", 0, 2, 2, "", "hi") + sums("hi"), api.OK}, {one + part("a", 0, 2, 2, "\x00", "hi") + sums("hi"), api.ErrForm},
		{plain + part("a", 0, 2, 2, "\x00\x00\x00", "hi") + sums("hi"), api.OK}, {plain + part("a", 0, 2, 2, "", "hi") + sums("hi"), api.ErrForm}, {plain + part("a", 0, 2, 2, "\x00\x00", "hi") + sums("hi"), api.ErrForm}, {plain + part("a", 0, 2, 2, "\x00\x00\x00\x00\x00\x00\x00", "hi") + sums("hi"), api.ErrForm}, {plain + part("a", 0, 2, 2, "\x00\x01\x00", "hi") + sums("hi"), api.ErrForm}, {plain + part("a", 0, 2, 2, "\x00\x00\xff", "hi") + sums("hi"), api.ErrForm},
		{plain + part("a", 0, 0, 0, "\x00\x00\x00", "") + sums(""), api.OK}, {plain + part("a", 0, 0, 0, "", "") + sums(""), api.ErrForm},
		{"PL\x10\x00\x01" + part("a", 0, 2, 2, "\x00\x00\x00", "hi") + sums("hi"), api.OK}, {"PL\x0d\x00\x01" + part("a", 0, 2, 2, "", "hi") + sums("hi"), api.OK}, {"PL\x0d\x00\x01" + part("a", 0, 2, 2, strings.Repeat("\x00", 13), "hi") + sums("hi"), api.ErrForm}, {one + part("a", 0, 2, 2, strings.Repeat("\x00", 255), "hi") + sums("hi"), api.ErrForm},
		// Methods and lengths.
		{one + part("a", 1, 2, 2, "", "hi") + sums("hi"), api.ErrForm}, {one + part("a", 2, 2, 2, "", "hi") + sums("hi"), api.ErrForm}, {one + part("a", 255, 2, 2, "", "hi") + sums("hi"), api.ErrForm}, {one + part("a", 0, 1, 2, "", "hi") + sums("hi"), api.ErrForm}, {one + part("a", 0, 3, 2, "", "hi") + sums("hi"), api.ErrForm}, {one + part("a", 0, 2, 1, "", "hi") + sums("hi"), api.ErrForm}, {one + part("a", 0, 2, 3, "", "hi") + sums("hi"), api.ErrForm}, {one + part("a", 0, 258, 2, "", "hi") + sums("hi"), api.ErrForm}, {one + part("a", 0, 2, 258, "", "hi") + sums("hi"), api.ErrForm}, {one + part("a", 0, 65535, 65535, "", "hi") + sums("hi"), api.ErrForm},
		{one + part("a", 0, 600, 600, "", x600) + sums(x600), api.OK}, {one + part("a", 0, 601, 601, "", x601) + sums(x601), api.ErrForm},
		// Sums.
		{one + part("a", 0, 2, 2, "", "hi"), api.ErrForm}, {one + part("a", 0, 2, 2, "", "hi") + sums("ho"), api.ErrForm}, {one + part("a", 0, 2, 2, "", "hi") + sums("hi", ""), api.ErrForm}, {one + part("a", 0, 2, 2, "", "hi") + sums("hi")[:3], api.ErrForm}, {one + part("a", 0, 2, 2, "", "hi") + sums("hi") + "\x00", api.ErrForm},
		{two + part("a", 0, 1, 1, "", "x") + part("b", 0, 1, 1, "", "y") + sums("x", "y"), api.OK}, {two + part("a", 0, 1, 1, "", "x") + part("b", 0, 1, 1, "", "y") + sums("y", "x"), api.ErrForm}, {two + part("a", 0, 1, 1, "", "x") + sums("x") + part("b", 0, 1, 1, "", "y") + sums("y"), api.ErrForm},
		// How many there are.
		{one + part("a", 0, 1, 1, "", "x") + part("b", 0, 1, 1, "", "y") + sums("x", "y"), api.ErrForm}, {two + part("a", 0, 1, 1, "", "x") + sums("x"), api.ErrForm}, {two + part("a", 0, 1, 1, "", "x") + sums("x", ""), api.ErrForm},
		// Paths.
		{one + part("", 0, 0, 0, "", "") + sums(""), api.ErrForm}, {one + part("A", 0, 0, 0, "", "") + sums(""), api.ErrForm}, {one + part("..", 0, 0, 0, "", "") + sums(""), api.ErrForm}, {one + part("a/", 0, 0, 0, "", "") + sums(""), api.ErrForm}, {one + part("a\x00", 0, 0, 0, "", "") + sums(""), api.ErrForm}, {one + part("...", 0, 0, 0, "", "") + sums(""), api.OK}, {one + part(long40, 0, 0, 0, "", "") + sums(""), api.OK}, {one + part(long41, 0, 0, 0, "", "") + sums(""), api.ErrForm},
		{one + "\xff" + part("a", 0, 0, 0, "", "")[1:] + sums(""), api.ErrForm}, {one + "\x02" + part("a", 0, 0, 0, "", "")[1:] + sums(""), api.ErrForm},
		// Order, and paths that meet.
		{two + part("b", 0, 0, 0, "", "") + part("a", 0, 0, 0, "", "") + sums("", ""), api.ErrForm}, {two + part("a", 0, 0, 0, "", "") + part("a", 0, 0, 0, "", "") + sums("", ""), api.ErrForm}, {two + part("a", 0, 0, 0, "", "") + part("a", 0, 1, 1, "", "x") + sums("", "x"), api.ErrForm}, {two + part("a", 0, 0, 0, "", "") + part("a/b", 0, 0, 0, "", "") + sums("", ""), api.ErrForm}, {two + part("a", 0, 0, 0, "", "") + part("a-b", 0, 0, 0, "", "") + sums("", ""), api.OK}, {two + part("a", 0, 0, 0, "", "") + part("aa", 0, 0, 0, "", "") + sums("", ""), api.OK}, {two + part("aa", 0, 0, 0, "", "") + part("a", 0, 0, 0, "", "") + sums("", ""), api.ErrForm},
		{"PL\x01\x00\x03" + part("a", 0, 0, 0, "", "") + part("a-", 0, 0, 0, "", "") + part("a/b", 0, 0, 0, "", "") + sums("", "", ""), api.ErrForm},
		// Packing.
		{packs + part("a", 1, 8, 4, "", "\x00a\x84\x00") + sums(eight), api.OK}, {plain + part("a", 1, 8, 4, "", "\x00a\x84\x00") + sums(eight), api.ErrForm}, {packs + part("a", 0, 8, 8, "\x00\x00\x00", eight) + sums(eight), api.ErrForm}, {plain + part("a", 0, 8, 8, "\x00\x00\x00", eight) + sums(eight), api.OK},
		{packs + part("a", 1, 8, 4, "\x00\x00\x00", "\x00a\x84\x00") + sums(eight), api.ErrForm}, {packs + part("a", 1, 8, 6, "", "\x00a\x80\x00\x81\x00") + sums(eight), api.ErrForm}, {packs + part("a", 1, 8, 5, "", "\x01aa\x83\x00") + sums(eight), api.ErrForm}, {packs + part("a", 1, 8, 5, "", "\x01aa\x83\x01") + sums(eight), api.ErrForm},
		{packs + part("a", 1, 7, 4, "", "\x00a\x84\x00") + sums(eight), api.ErrForm}, {packs + part("a", 1, 4, 4, "", "\x00a\x84\x00") + sums(eight), api.ErrForm}, {packs + part("a", 1, 8, 4, "", "\x00a\x84\x00") + sums("aaaa"), api.ErrForm}, {packs + part("a", 1, 8, 4, "", "\x00a\x84\x00") + sums("\x00a\x84\x00"), api.ErrForm},
		{packs + part("a", 1, 8, 4, "", "\x00a\x84\x01") + sums(eight), api.ErrForm}, {packs + part("a", 1, 8, 4, "", "\xc0a\x84\x00") + sums(eight), api.ErrForm}, {packs + part("a", 1, 8, 3, "", "\x00a\x84") + sums(eight), api.ErrForm}, {packs + part("a", 1, 2, 3, "", "\x01hi") + sums("hi"), api.ErrForm}, {packs + part("a", 0, 2, 2, "\x00\x00\x00", "hi") + sums("hi"), api.OK},
		{packs + part("a", 1, 4, 4, "", "\x00a\x80\x00") + sums("aaaa"), api.ErrForm}, {packs + part("a", 0, 4, 4, "\x00\x00\x00", "aaaa") + sums("aaaa"), api.OK}, {packs + part("a", 1, 0, 0, "", "") + sums(""), api.ErrForm}, {packs + part("a", 0, 0, 0, "\x00\x00\x00", "") + sums(""), api.OK},
		{packs + part("a", 1, 600, 22, "", p600) + sums(x600), api.OK}, {packs + part("a", 1, 601, 22, "", p601) + sums(x601), api.ErrForm},
		{packs + part("a", 1, 7, 5, "", "\x02abc\x81\x02") + sums("abcabca"), api.ErrForm}, {packs + part("a", 1, 7, 6, "", "\x02abc\x81\x02") + sums("abcabca"), api.OK},
	} {
		expectVerify(t, sealed("k", []byte(c.inner)), "k", c.e)
	}
}

// otherKey: a key of five bytes whose tags are those of another key, since its number is greater by Modulus.
func otherKey(key string) string {
	n := api.Modulus
	for i, power := len(key)-1, 1; i >= 0; i, power = i-1, power*257 {
		n += (int(key[i]) + 1) * power
	}
	var other []byte
	for range len(key) {
		other = append([]byte{byte(n%257 - 1)}, other...)
		n /= 257
	}
	return string(other)
}

func TestVerifyWithOtherKeys(t *testing.T) {
	entries := named("a", "b/c")
	p := slowPackage(entries, api.Config{Key: "key", Align: 4, Pack: true})
	for _, key := range []string{"k", "kez", "yek", "keykey", "KEY", "key\x00", "\x00key", "ke", "key ", strings.Repeat("key ", 4)} {
		expectVerify(t, p, key, api.ErrTag)
	}
	// A key with the same tags is as good as the one that the package was made with: it is told.
	key := "apple"
	other := otherKey(key)
	if other == key || slowTag(other, []byte("x")) != slowTag(key, []byte("x")) {
		t.Fatalf("%q and %q have different tags", key, other)
	}
	p = slowPackage(entries, api.Config{Key: key, Align: 4, Pack: true})
	got, c, e := parcel.Verify(p, other)
	if want := (api.Config{Key: other, Align: 4, Pack: true}); e != api.OK || c != want || !sameEntries(got, entries) {
		t.Errorf("P10: Verify with another key of the same tag = %s, %+v, %d", told(got), c, e)
	}
}

func TestFind(t *testing.T) {
	entries := []api.Entry{sized("b", 600), sized("a/b", 10), {Path: "c", Body: bytes.Repeat([]byte("c"), 600)}, {Path: "d"}, {Path: strings.Repeat("e", 40), Body: []byte("e")}}
	for _, c := range []api.Config{{Key: "k", Align: 1}, {Key: "key", Align: 16, Pack: true}} {
		p, e, _ := parcel.Build(entries, c)
		if e != api.OK {
			t.Fatalf("P9: Build of %s= %d", told(entries), e)
		}
		for _, x := range entries {
			expectFind(t, p, x.Path, c.Key, x.Body, api.OK)
		}
		for _, path := range []string{"", "a", "a/", "a/b/", "a/bb", "/b", "B", "bb", "b ", "\x00", "..", "e", strings.Repeat("e", 39), strings.Repeat("e", 41), strings.Repeat("e", 1000000), "f"} {
			expectFind(t, p, path, c.Key, nil, api.ErrNone)
			expectFind(t, p, path, "", nil, api.ErrKey)
			expectFind(t, p, path, c.Key+"k", nil, api.ErrTag)
			expectFind(t, p[1:], path, c.Key, nil, api.ErrSum)
			expectFind(t, p[:12], path, c.Key, nil, api.ErrShort)
			expectFind(t, make([]byte, 4001), path, c.Key, nil, api.ErrLong)
			expectFind(t, sealed(c.Key, p[1:]), path, c.Key, nil, api.ErrForm)
		}
	}
	for _, path := range []string{"", "a"} {
		expectFind(t, slowPackage(nil, api.Config{Key: "k", Align: 1}), path, "k", nil, api.ErrNone)
	}
}

// What Build gives, Verify takes, and what Verify gives, Build makes the same bytes of.
func TestVerifyOfRandomEntries(t *testing.T) {
	r := rand.New(rand.NewSource(11))
	taken := 0
	for n := range 1500 {
		entries, c := randomEntries(r, 2+n%19), randomConfig(r)
		p, e, _ := parcel.Build(entries, c)
		if e != api.OK {
			continue
		}
		taken++
		expectTaken(t, entries, c)
		got, d, _ := parcel.Verify(p, c.Key)
		if again, e, _ := parcel.Build(got, d); e != api.OK || !bytes.Equal(again, p) {
			t.Errorf("P10: Build of what Verify gave of %x = %x, %d", p, again, e)
		}
		inner := bytes.Clone(p[:len(p)-8])
		for range 1 + r.Intn(3) {
			inner[r.Intn(len(inner))] = byte(r.Intn(256) >> r.Intn(9))
		}
		checkVerify(t, sealed(c.Key, inner), c.Key)
		if t.Failed() {
			return
		}
	}
	if taken < 300 {
		t.Errorf("only %d of the random lists can be built", taken)
	}
}

// FuzzVerify's bytes are those ahead of the sum and the tag, and once more those of the whole package.
func FuzzVerify(f *testing.F) {
	for _, inner := range smallPackages() {
		f.Add(inner, "k")
	}
	f.Fuzz(func(t *testing.T, inner []byte, key string) {
		checkVerify(t, inner, key)
		checkVerify(t, sealed(key, inner), key)
	})
}
