package parcel_test

import (
	"bytes"
	"encoding/binary"
	"fmt"
	"hash/crc32"
	"math"
	"math/rand"
	"slices"
	"strings"
	"testing"

	"parcel/api"
	"parcel/parcel"
)

// fault: an error and its path.
type fault struct {
	e    api.Errno
	path string
}

// slowFaults: all faults of what is handed to Build but ErrLong, by the words of the document.
func slowFaults(entries []api.Entry, c api.Config) []fault {
	var l []fault
	if len(c.Key) < 1 || len(c.Key) > 16 {
		l = append(l, fault{api.ErrKey, ""})
	}
	if c.Align < 1 || c.Align > 16 {
		l = append(l, fault{api.ErrAlign, ""})
	}
	if len(entries) > 20 {
		l = append(l, fault{api.ErrMany, ""})
	}
	for i, e := range entries {
		if slowPath(e.Path) != api.OK {
			l = append(l, fault{api.ErrPath, e.Path})
		}
		if len(e.Body) > 600 {
			l = append(l, fault{api.ErrBig, e.Path})
		}
		for k, other := range entries {
			if i != k && e.Path == other.Path {
				l = append(l, fault{api.ErrTwice, e.Path})
			}
			if i != k && strings.HasPrefix(e.Path, other.Path+"/") {
				l = append(l, fault{api.ErrUnder, e.Path})
			}
		}
	}
	return l
}

// lessString: by the document's words, byte by byte.
func lessString(a, b string) bool {
	for i := 0; i < len(a) && i < len(b); i++ {
		if a[i] != b[i] {
			return a[i] < b[i]
		}
	}
	return len(a) < len(b)
}

// slowPacked: what slowPack has made, since the same bodies come again and again and it takes its time.
var slowPacked = map[string][]byte{}

func packedOnce(body []byte) []byte {
	packed, there := slowPacked[string(body)]
	if !there {
		packed = slowPack(body)
		slowPacked[string(body)] = packed
	}
	return packed
}

// slowEntry: what is laid of an entry behind a package's first bytes, by the words of the document.
func slowEntry(p []byte, e api.Entry, c api.Config) []byte {
	p = append(p, byte(len(e.Path)))
	p = append(p, e.Path...)
	var packed []byte
	if c.Pack {
		packed = packedOnce(e.Body)
	}
	if c.Pack && len(packed) < len(e.Body) {
		p = append(p, 1)
		p = binary.BigEndian.AppendUint16(p, uint16(len(e.Body)))
		p = binary.BigEndian.AppendUint16(p, uint16(len(packed)))
		p = append(p, 0)
		return append(p, packed...)
	}
	p = append(p, 0)
	p = binary.BigEndian.AppendUint16(p, uint16(len(e.Body)))
	p = binary.BigEndian.AppendUint16(p, uint16(len(e.Body)))
	for n := 0; ; n++ {
		if (len(p)+1+n)%c.Align == 0 {
			p = append(p, byte(n))
			p = append(p, make([]byte, n)...)
			return append(p, e.Body...)
		}
	}
}

// sealed: some bytes with their sum and tag behind them.
func sealed(key string, p []byte) []byte {
	p = binary.BigEndian.AppendUint32(bytes.Clone(p), crc32.ChecksumIEEE(p))
	return binary.BigEndian.AppendUint32(p, uint32(slowTag(key, p)))
}

// slowPackage: the package, by the words of the document.
func slowPackage(entries []api.Entry, c api.Config) []byte {
	sorted := slices.Clone(entries)
	for i := range sorted {
		for k := range sorted[i:] {
			if lessString(sorted[i+k].Path, sorted[i].Path) {
				sorted[i], sorted[i+k] = sorted[i+k], sorted[i]
			}
		}
	}
	p := []byte{'P', 'L', byte(c.Align), 0, byte(len(sorted))}
	if c.Pack {
		p[3] = 1
	}
	for _, e := range sorted {
		p = slowEntry(p, e, c)
	}
	for _, e := range sorted {
		p = binary.BigEndian.AppendUint32(p, crc32.ChecksumIEEE(e.Body))
	}
	return sealed(c.Key, p)
}

// slowBuild: what Build is to answer.
func slowBuild(entries []api.Entry, c api.Config) ([]byte, fault) {
	faults := slowFaults(entries, c)
	if len(faults) == 0 {
		p := slowPackage(entries, c)
		if len(p) > 4000 {
			return nil, fault{api.ErrLong, ""}
		}
		return p, fault{}
	}
	least := faults[0]
	for _, f := range faults {
		if f.e < least.e || f.e == least.e && lessString(f.path, least.path) {
			least = f
		}
	}
	return nil, least
}

// told: entries in short, for a message.
func told(entries []api.Entry) string {
	var b strings.Builder
	for _, e := range entries {
		fmt.Fprintf(&b, "%.50q (%d bytes) ", e.Path, len(e.Body))
	}
	return b.String()
}

// checkBuild: that Build answers as the document says; it tells the fault.
func checkBuild(t *testing.T, entries []api.Entry, c api.Config) fault {
	t.Helper()
	p, e, path := parcel.Build(entries, c)
	got := fault{e, path}
	wantP, want := slowBuild(entries, c)
	if got != want || !bytes.Equal(p, wantP) {
		t.Errorf("P8, P9: Build of %swith %+v = %x, %d, %.50q, want %x, %d, %.50q", told(entries), c, p, e, path, wantP, want.e, want.path)
	}
	if e != api.OK && p != nil {
		t.Errorf("P1: Build of %swith %+v = %q besides the error %d", told(entries), c, p, e)
	}
	return got
}

// expectFault: that Build answers as the document says, and with this error and path.
func expectFault(t *testing.T, entries []api.Entry, c api.Config, e api.Errno, path string) {
	t.Helper()
	if got, want := checkBuild(t, entries, c), (fault{e, path}); got != want {
		t.Errorf("P8: Build of %swith %+v = %d, %.50q, want %d, %.50q", told(entries), c, got.e, got.path, e, path)
	}
}

// named: entries of some paths, each with its path as its body.
func named(paths ...string) []api.Entry {
	var l []api.Entry
	for _, path := range paths {
		l = append(l, api.Entry{Path: path, Body: []byte(path)})
	}
	return l
}

// sized: an entry whose body has n bytes that cannot be packed.
func sized(path string, n int) api.Entry {
	return api.Entry{Path: path, Body: patternless(n)}
}

// letters: n entries with one letter each as their path, from z down.
func letters(n int) []api.Entry {
	var l []api.Entry
	for i := range n {
		l = append(l, api.Entry{Path: string(rune('z' - i)), Body: []byte{byte(i)}})
	}
	return l
}

func TestBuildOfExamples(t *testing.T) {
	aaa := bytes.Repeat([]byte("a"), 68)
	for _, c := range []struct {
		entries []api.Entry
		config  api.Config
		want    string // in hexadecimal numbers
	}{
		{nil, api.Config{Key: "k", Align: 4}, "504c040000" + "28fa778f" + "519b9064"},
		{[]api.Entry{{Path: "a", Body: []byte("hi")}}, api.Config{Key: "k", Align: 8}, "504c080001" + "0161" + "00" + "0002" + "0002" + "03000000" + "6869" + "d8932aac" + "6540b4ea" + "2fe744ab"},
		{[]api.Entry{{Path: "a", Body: aaa}}, api.Config{Key: "k", Align: 8, Pack: true}, "504c080101" + "0161" + "01" + "0044" + "0006" + "00" + "0061bf000061" + "0b9a4326" + "02d2d5ad" + "ff5cde04"},
	} {
		p, e, path := parcel.Build(c.entries, c.config)
		if e != api.OK || path != "" || fmt.Sprintf("%x", p) != c.want {
			t.Errorf("P9: Build of %swith %+v = %x, %d, %q, want %s", told(c.entries), c.config, p, e, path, c.want)
		}
		checkBuild(t, c.entries, c.config)
	}
	good := api.Config{Key: "k", Align: 4}
	if p, _, _ := parcel.Build(nil, good); len(p) != api.MinPackage {
		t.Errorf("P9: Build of nothing has %d bytes", len(p))
	}
	expectFault(t, named("b", "a/b", "a"), good, api.ErrUnder, "a/b")
	expectFault(t, named("b", "b", "A"), good, api.ErrPath, "A")
	expectFault(t, named("b", "c", "b", "c"), good, api.ErrTwice, "b")
	expectFault(t, letters(21), api.Config{Key: "k"}, api.ErrAlign, "")
}

func TestBuildSettings(t *testing.T) {
	entries := []api.Entry{sized("b", 40), sized("a", 3), {Path: "c", Body: []byte("aaaaaaaa")}}
	for n := range 40 {
		key := strings.Repeat("\xff", n)
		want := api.OK
		if n < 1 || n > api.MaxKey {
			want = api.ErrKey
		}
		expectFault(t, entries, api.Config{Key: key, Align: 4}, want, "")
		expectFault(t, nil, api.Config{Key: key, Align: 4, Pack: true}, want, "")
	}
	for align := -3; align < 600; align++ {
		want := api.OK
		if align < 1 || align > api.MaxAlign {
			want = api.ErrAlign
		}
		expectFault(t, entries, api.Config{Key: "k", Align: align}, want, "")
		expectFault(t, entries, api.Config{Key: "k", Align: align, Pack: true}, want, "")
		expectFault(t, nil, api.Config{Key: "k", Align: align}, want, "")
	}
	for _, align := range []int{math.MinInt, math.MaxInt, 1 << 32, 1<<32 + 1, 257, -255} {
		expectFault(t, entries, api.Config{Key: "k", Align: align}, api.ErrAlign, "")
	}
	for b := range 256 {
		expectFault(t, entries, api.Config{Key: string([]byte{byte(b)}), Align: 1}, api.OK, "")
	}
}

func TestBuildCounts(t *testing.T) {
	good := api.Config{Key: "k", Align: 4}
	for n := range 26 {
		want := api.OK
		if n > api.MaxEntries {
			want = api.ErrMany
		}
		expectFault(t, letters(n), good, want, "")
		expectFault(t, letters(n), api.Config{Key: "k", Align: 16, Pack: true}, want, "")
	}
	for _, n := range []int{256, 260, 276, 65536} {
		expectFault(t, make([]api.Entry, n)[:21], good, api.ErrMany, "")
		if p, e, path := parcel.Build(make([]api.Entry, n), good); p != nil || e != api.ErrMany || path != "" {
			t.Errorf("P8: Build of %d entries = %x, %d, %q", n, p, e, path)
		}
	}
}

// Each error goes ahead of all that are greater, whatever their paths are.
func TestBuildTellsTheLeastError(t *testing.T) {
	good := api.Config{Key: "k", Align: 4}
	big := sized("a", 601)
	under := append(named("z/z", "z"), big)
	twice := append(named("y", "y"), under...)
	path := append(named("x/"), twice...)
	many := append(letters(20), path...)
	expectFault(t, []api.Entry{big}, good, api.ErrBig, "a")
	expectFault(t, under, good, api.ErrUnder, "z/z")
	expectFault(t, twice, good, api.ErrTwice, "y")
	expectFault(t, path, good, api.ErrPath, "x/")
	expectFault(t, many, good, api.ErrMany, "")
	expectFault(t, many, api.Config{Key: "k", Align: 17}, api.ErrAlign, "")
	expectFault(t, many, api.Config{Key: "", Align: 17}, api.ErrKey, "")
	expectFault(t, nil, api.Config{}, api.ErrKey, "")
	long := []api.Entry{sized("b", 600), sized("c", 600), sized("d", 600), sized("e", 600), sized("f", 600), sized("g", 600), sized("h", 600)}
	expectFault(t, long, good, api.ErrLong, "")
	expectFault(t, append(long, sized("z", 601)), good, api.ErrBig, "z")
	expectFault(t, append(long, named("b/z")...), good, api.ErrUnder, "b/z")
	expectFault(t, append(long, named("h")...), good, api.ErrTwice, "h")
	expectFault(t, append(long, named("\xff")...), good, api.ErrPath, "\xff")
	expectFault(t, long, api.Config{Key: "k"}, api.ErrAlign, "")
	expectFault(t, long, api.Config{Align: 1}, api.ErrKey, "")
}

func TestBuildTellsTheLeastPath(t *testing.T) {
	good := api.Config{Key: "k", Align: 4, Pack: true}
	long := strings.Repeat("a", api.MaxPath+1)
	for _, c := range []struct {
		paths []string
		e     api.Errno
		path  string
	}{
		{[]string{"B", "A", "C"}, api.ErrPath, "A"}, {[]string{"B", "", "A"}, api.ErrPath, ""}, {[]string{"", ""}, api.ErrPath, ""},
		{[]string{"a/", "a//", "a/."}, api.ErrPath, "a/"}, {[]string{"a/.", "a//", "b"}, api.ErrPath, "a/."}, {[]string{"\xff", "\x80", "é"}, api.ErrPath, "\x80"},
		{[]string{long + "a", long, "b"}, api.ErrPath, long}, {[]string{long, long, "b"}, api.ErrPath, long}, {[]string{"..", "/", "a", "a"}, api.ErrPath, ".."},
		{[]string{long[:40], long[:39]}, api.OK, ""}, {[]string{long[:40], long[:40]}, api.ErrTwice, long[:40]},
		{[]string{"c", "b", "a", "c", "b"}, api.ErrTwice, "b"}, {[]string{"c", "c", "c", "b"}, api.ErrTwice, "c"}, {[]string{"b", "ba", "ba", "b"}, api.ErrTwice, "b"},
		{[]string{"b/a", "b", "b/a", "b/b"}, api.ErrTwice, "b/a"}, {[]string{"a", "a/b", "c", "c"}, api.ErrTwice, "c"},
		{[]string{"a", "a/b", "a/a"}, api.ErrUnder, "a/a"}, {[]string{"a/b/c", "a", "a/b"}, api.ErrUnder, "a/b"}, {[]string{"a/b/c", "a"}, api.ErrUnder, "a/b/c"},
		{[]string{"a", "a-", "a-b", "a.", "a.b", "a/b"}, api.ErrUnder, "a/b"}, {[]string{"a/b", "a-", "a", "a/a/a"}, api.ErrUnder, "a/a/a"},
		{[]string{"a/b", "a/b/c", "a/bc"}, api.ErrUnder, "a/b/c"}, {[]string{"c/d", "c", "b", "b/z"}, api.ErrUnder, "b/z"},
		{[]string{"ab", "a", "a.b", "a-/b", "a_", "a0"}, api.OK, ""}, {[]string{"a/b", "b", "b-/a", "a/c"}, api.OK, ""}, {[]string{"b/a", "a/b", "aa/b", "a/a"}, api.OK, ""},
	} {
		expectFault(t, named(c.paths...), good, c.e, c.path)
		slices.Reverse(c.paths)
		expectFault(t, named(c.paths...), good, c.e, c.path)
		slices.Sort(c.paths)
		expectFault(t, named(c.paths...), good, c.e, c.path)
	}
}

func TestBuildBodies(t *testing.T) {
	for _, packs := range []bool{false, true} {
		c := api.Config{Key: "k", Align: 3, Pack: packs}
		for n := range 601 {
			if n > 70 && n < 590 && n%17 != 0 && n%256 > 1 {
				continue // to save time
			}
			expectFault(t, []api.Entry{sized("a", n), {Path: "b", Body: bytes.Repeat([]byte("x"), n)}}, c, api.OK, "")
		}
		for _, n := range []int{601, 602, 65536, 65536 + 10} {
			expectFault(t, []api.Entry{sized("a", 600), {Path: "c", Body: make([]byte, n)}, {Path: "b", Body: make([]byte, n)}}, c, api.ErrBig, "b")
			expectFault(t, []api.Entry{{Path: "c", Body: make([]byte, n)}, named("b")[0]}, c, api.ErrBig, "c")
		}
	}
}

// A body is packed only if that makes it shorter: at the same length it is stored.
func TestBuildPacksWhatGetsShorter(t *testing.T) {
	for _, c := range []struct {
		body   string
		method byte
	}{
		{"", 0}, {"a", 0}, {"aaa", 0}, {"aaaa", 0}, {"aaaaa", 1}, {"abcabc", 0}, {"abcabca", 1}, {"abcdabc", 0}, {"abcdabcd", 1},
		{counted()[:100] + "abc", 0}, {counted()[:100] + "abcd", 0}, {counted()[:130] + "abc", 0}, {counted()[:100] + "\x01\x02\x03\x04", 1},
	} {
		for align := 1; align <= api.MaxAlign; align++ {
			entries := []api.Entry{{Path: "a", Body: []byte(c.body)}}
			expectFault(t, entries, api.Config{Key: "k", Align: align}, api.OK, "")
			expectFault(t, entries, api.Config{Key: "k", Align: align, Pack: true}, api.OK, "")
			plain, _, _ := parcel.Build(entries, api.Config{Key: "k", Align: align})
			p, _, _ := parcel.Build(entries, api.Config{Key: "k", Align: align, Pack: true})
			if len(plain) < 8 || plain[7] != 0 || len(p) < 8 || p[7] != c.method {
				t.Errorf("P9: the body %q is laid as %x, and as %x with packing", c.body, plain, p)
			}
		}
	}
}

func TestBuildAlignsStoredBodies(t *testing.T) {
	for align := 1; align <= api.MaxAlign; align++ {
		for n := 1; n <= api.MaxPath; n++ {
			path := strings.Repeat("p", n)
			body := []byte("0123456789abcdefghij")
			p, e, _ := parcel.Build([]api.Entry{{Path: path, Body: body}}, api.Config{Key: "k", Align: align})
			at := bytes.Index(p, body)
			least := 5 + 1 + n + 6
			if e != api.OK || at < least || at%align != 0 || at-least >= align || int(p[least-1]) != at-least {
				t.Errorf("P9: with the alignment %d and a path of %d bytes the body begins at %d: %x, %d", align, n, at, p, e)
			}
			entries := []api.Entry{sized(path, n), sized("q", 2*n), {Path: "o", Body: bytes.Repeat([]byte("o"), n)}}
			expectFault(t, entries, api.Config{Key: "k", Align: align}, api.OK, "")
			expectFault(t, entries, api.Config{Key: "k", Align: align, Pack: true}, api.OK, "")
		}
	}
}

// At the greatest length a package is one, and one byte above it is not.
func TestBuildOfTheGreatestPackages(t *testing.T) {
	for align := 1; align <= api.MaxAlign; align++ {
		c := api.Config{Key: "k", Align: align}
		entries := []api.Entry{sized("a", 600), sized("b", 599), sized("c", 600), sized("d", 598), sized("e", 600), sized("f", 600)}
		// The last body's length changes nothing ahead of it.
		greatest := api.MaxPackage - len(slowPackage(append(entries[:6:6], sized("g", 0)), c))
		for n := greatest - 2; n <= greatest; n++ {
			expectFault(t, append(entries[:6:6], sized("g", n)), c, api.OK, "")
		}
		for _, n := range []int{greatest + 1, greatest + 2, greatest + 16, 600} {
			expectFault(t, append(entries[:6:6], sized("g", n)), c, api.ErrLong, "")
		}
		if p, _, _ := parcel.Build(append(entries[:6:6], sized("g", greatest)), c); len(p) != api.MaxPackage {
			t.Errorf("P8: with the alignment %d the greatest package has %d bytes", align, len(p))
		}
	}
	var l []api.Entry
	for i := range api.MaxEntries {
		l = append(l, api.Entry{Path: strings.Repeat(string(rune('a'+i)), api.MaxPath), Body: bytes.Repeat([]byte{byte(i)}, api.MaxBody)})
	}
	expectFault(t, l, api.Config{Key: "k", Align: 16}, api.ErrLong, "")
	expectFault(t, l, api.Config{Key: "k", Align: 16, Pack: true}, api.OK, "")
}

// In whatever order the entries are handed in, the package is the same.
func TestBuildHangsNotOnTheOrder(t *testing.T) {
	r := rand.New(rand.NewSource(9))
	entries := named("a", "a-", "a-b", "a.b/c", "a0", "aa", "b/a", "b/b", "b-", "c/d/e", "c/d.e", "c/d-", "z", "_", "...", "-", "0", "9/9", "99", "zz")
	c := api.Config{Key: "key", Align: 7, Pack: true}
	want, e, _ := parcel.Build(entries, c)
	if e != api.OK {
		t.Fatalf("P9: Build of twenty good entries = %d", e)
	}
	checkBuild(t, entries, c)
	for range 300 {
		r.Shuffle(len(entries), func(i, k int) { entries[i], entries[k] = entries[k], entries[i] })
		if p, e, path := parcel.Build(entries, c); e != api.OK || path != "" || !bytes.Equal(p, want) {
			t.Fatalf("P9: Build of %s= %x, %d, %q, want %x", told(entries), p, e, path, want)
		}
	}
}

// randomPath: mostly good ones, of few bytes, so that they often meet.
func randomPath(r *rand.Rand) string {
	var b []byte
	for range 1 + r.Intn(4) {
		b = append(b, "aaabbc-.0"[r.Intn(9)])
		if r.Intn(6) == 0 {
			b = append(b, "/a"...)
		}
	}
	if r.Intn(60) == 0 {
		b = append(b, "A/\xff\x00"[r.Intn(4)])
	}
	return string(b)
}

// randomSize: of a body, mostly below limit; now and then too great.
func randomSize(r *rand.Rand, limit int) int {
	if r.Intn(200) == 0 {
		return 600 + r.Intn(3)
	}
	return r.Intn(limit)
}

// randomEntries: up to n; in half of the lists the paths are different.
func randomEntries(r *rand.Rand, n int) []api.Entry {
	var l []api.Entry
	different := r.Intn(2) == 0
	limit := []int{20, 60, 400}[r.Intn(3)]
	for i := range r.Intn(n + 1) {
		path := randomPath(r)
		if different {
			path = fmt.Sprintf("%d-%s", i*7%31, path)
		}
		l = append(l, api.Entry{Path: path, Body: randomBytes(r, randomSize(r, limit), 1<<r.Intn(9))})
	}
	return l
}

// randomConfig: mostly a good one.
func randomConfig(r *rand.Rand) api.Config {
	c := api.Config{Key: string(randomBytes(r, 1+r.Intn(16), 256)), Align: 1 + r.Intn(16), Pack: r.Intn(2) == 0}
	if r.Intn(50) == 0 {
		c.Align = r.Intn(40) - 10
	}
	if r.Intn(50) == 0 {
		c.Key = strings.Repeat("k", r.Intn(2)*17)
	}
	return c
}

func TestBuildOfRandomEntries(t *testing.T) {
	r := rand.New(rand.NewSource(8))
	var seen [api.ErrNone + 1]int
	for n := range 2500 {
		f := checkBuild(t, randomEntries(r, 2+n%23), randomConfig(r))
		seen[f.e]++
		if t.Failed() {
			return
		}
	}
	for e := api.OK; e <= api.ErrLong; e++ {
		if seen[e] < 5 {
			t.Errorf("the random entries meet the answer %d only %d times", e, seen[e])
		}
	}
}

// FuzzBuild's paths are the lines of a text, the bodies pieces of some bytes.
func FuzzBuild(f *testing.F) {
	f.Add("a\nb/c\nb-", []byte("aaaaaaaaabcabcabcabc"), 3, "k", 4, true)
	f.Add("a\nb\na/b\nb", []byte("xyz"), 0, "", 17, false)
	f.Fuzz(func(t *testing.T, paths string, body []byte, step int, key string, align int, packs bool) {
		var l []api.Entry
		for i, path := range strings.Split(paths, "\n") {
			from := min(max(0, step)%(i+1), len(body))
			l = append(l, api.Entry{Path: path, Body: body[from:]})
		}
		checkBuild(t, l, api.Config{Key: key, Align: align, Pack: packs})
	})
}
