package parcel_test

import (
	"bytes"
	"fmt"
	"math"
	"math/rand"
	"strings"
	"testing"

	"parcel/api"
	"parcel/parcel"
)

// inRoom: some bytes as a list with spare room behind it, and the whole room, in which the spare bytes are told by a mark.
func inRoom(data []byte) (list, room []byte) {
	room = append(bytes.Clone(data), bytes.Repeat([]byte{0xA5}, 700)...)
	return room[:len(data)], room
}

// overwrite writes into a list and its spare room.
func overwrite(list []byte) {
	whole := list[:cap(list)]
	for i := range whole {
		whole[i] ^= 0xFF
	}
}

// bodies: a few that are packed in different ways, and one that is too long.
func bodies() [][]byte {
	return [][]byte{
		nil, []byte("a"), []byte("aaaa"), []byte("abcabc"), patternless(128), patternless(129),
		bytes.Repeat([]byte("a"), 600), patternless(600), bytes.Repeat([]byte("a"), 601),
	}
}

// packedLists: a few that Unpack takes and a few that it refuses.
func packedLists() [][]byte {
	return [][]byte{
		nil, []byte("\x00a"), []byte("\x00a\x80\x00"), []byte("\x02abc\xbf\x02\x00z"), append([]byte{127}, patternless(128)...),
		[]byte("\x00a\x80\x01"), []byte("\x02ab"), []byte("\xff"), []byte(strings.Repeat("\x00a", 601)),
	}
}

func TestNothingHandedInIsWrittenInto(t *testing.T) {
	for _, data := range append(bodies(), packedLists()...) {
		list, room := inRoom(data)
		before := bytes.Clone(room)
		parcel.Sum(list)
		parcel.Tag("key", list)
		parcel.Pack(list)
		parcel.Unpack(list)
		if !bytes.Equal(room, before) {
			t.Errorf("P2: what was handed in, %.40q, or the room behind it, was written into", data)
		}
	}
}

// checkFresh: that what came out of data changes nothing else when it is written into, and is not changed from elsewhere.
func checkFresh(t *testing.T, name string, call func([]byte) ([]byte, api.Errno), data []byte) {
	list, room := inRoom(data)
	before := bytes.Clone(room)
	first, e := call(list)
	want := bytes.Clone(first)
	second, f := call(list)
	if e != f || !bytes.Equal(second, want) {
		t.Errorf("P2: %s(%.40q) = %q, %d, and then %q, %d", name, data, want, e, second, f)
	}
	overwrite(first)
	if !bytes.Equal(room, before) || !bytes.Equal(second, want) {
		t.Errorf("P2: %s(%.40q): what came out shares memory", name, data)
	}
	third, f := call(list)
	if e != f || !bytes.Equal(third, want) {
		t.Errorf("P2: %s(%.40q) = %q, %d behind a change of what came out, want %q, %d", name, data, third, f, want, e)
	}
	overwrite(room)
	call(room[:len(data)])
	if !bytes.Equal(second, want) || !bytes.Equal(third, want) {
		t.Errorf("P2: %s(%.40q): what came out has been changed", name, data)
	}
}

func TestWhatComesOutIsFresh(t *testing.T) {
	for _, body := range bodies() {
		checkFresh(t, "Pack", parcel.Pack, body)
	}
	for _, packed := range packedLists() {
		checkFresh(t, "Unpack", parcel.Unpack, packed)
	}
}

// What is answered hangs on the arguments alone: other calls between two equal ones change nothing.
func TestAnswersHangOnTheArgumentsAlone(t *testing.T) {
	body := []byte("abcabcabcxyz")
	packed, _ := parcel.Pack(body)
	kept := bytes.Clone(packed)
	sum := parcel.Sum(body)
	tag, _ := parcel.Tag("key", body)
	r := rand.New(rand.NewSource(2))
	for range 500 {
		other := randomBytes(r, r.Intn(api.MaxBody+50), 4)
		parcel.Pack(other)
		parcel.Unpack(other)
		parcel.Sum(other)
		parcel.Tag(string(other[:min(len(other), 17)]), other)
		parcel.Path(string(other))
		again, e := parcel.Pack(body)
		if e != api.OK || !bytes.Equal(again, kept) || !bytes.Equal(packed, kept) {
			t.Fatalf("P2: Pack(%q) = %x, %d, and earlier %x, want %x", body, again, e, packed, kept)
		}
		if n := parcel.Sum(body); n != sum {
			t.Fatalf("P2: Sum(%q) = %d, and earlier %d", body, n, sum)
		}
		if n, e := parcel.Tag("key", body); n != tag || e != api.OK {
			t.Fatalf("P2: Tag(%q) = %d, %d, and earlier %d", body, n, e, tag)
		}
	}
}

func TestErrorsComeAlone(t *testing.T) {
	if n, e := parcel.Tag("", []byte("abc")); n != 0 || e != api.ErrKey {
		t.Errorf("P1: Tag = %d besides the error %d", n, e)
	}
	if packed, e := parcel.Pack(make([]byte, api.MaxBody+1)); packed != nil || e != api.ErrBig {
		t.Errorf("P1: Pack = %q besides the error %d", packed, e)
	}
	for _, entries := range entryLists()[5:] {
		if p, e, _ := parcel.Build(entries, api.Config{Key: "k", Align: 1}); p != nil || e == api.OK {
			t.Errorf("P1: Build of %s= %x besides the error %d", told(entries), p, e)
		}
	}
	for _, p := range [][]byte{nil, make([]byte, 50), make([]byte, 4001), sealed("l", []byte("PL\x01\x00\x00")), sealed("k", []byte("PL\x01\x00\x01\x01a\x00\x00\x02\x00\x02\x00hi\x00\x00\x00\x00"))} {
		if entries, c, e := parcel.Verify(p, "k"); entries != nil || c != (api.Config{}) || e == api.OK {
			t.Errorf("P1: Verify(%x) = %s, %+v besides the error %d", p, told(entries), c, e)
		}
		if body, e := parcel.Find(p, "a", "k"); body != nil || e == api.OK {
			t.Errorf("P1: Find(%x) = %q besides the error %d", p, body, e)
		}
		if q, e, path := parcel.Replace(p, named("A")[0], "k"); q != nil || e == api.OK || path != "" {
			t.Errorf("P1: Replace(%x) = %x, %q besides the error %d", p, q, path, e)
		}
		if q, e := parcel.Drop(p, "a", "k"); q != nil || e == api.OK {
			t.Errorf("P1: Drop(%x) = %x besides the error %d", p, q, e)
		}
	}
	full := slowPackage(letters(20), api.Config{Key: "k", Align: 1})
	for _, x := range []api.Entry{sized("a", 0), sized("z", 601)} {
		if q, e, _ := parcel.Replace(full, x, "k"); q != nil || e == api.OK {
			t.Errorf("P1: Replace of %q = %x besides the error %d", x.Path, q, e)
		}
	}
	if q, e := parcel.Drop(full, "a", "k"); q != nil || e != api.ErrNone {
		t.Errorf("P1: Drop = %x besides the error %d", q, e)
	}
	for _, list := range []string{"\x00a\xff", "\x02abc\x02", "\x02abc\x80\x03", strings.Repeat("\x00a", 601)} {
		if body, e := parcel.Unpack([]byte(list)); body != nil || e == api.OK {
			t.Errorf("P1: Unpack(%.40q) = %q besides the error %d", list, body, e)
		}
	}
}

// A panic or a call that does not end fails here, whatever is answered.
func TestEveryCallEnds(t *testing.T) {
	r := rand.New(rand.NewSource(1))
	for n := range 3000 {
		data := randomBytes(r, n%800, 1+r.Intn(256))
		parcel.Sum(data)
		parcel.Tag(string(data[:len(data)%20]), data)
		parcel.Pack(data)
		parcel.Unpack(data)
		parcel.Path(string(data))
		parcel.Build(make([]api.Entry, n%30), api.Config{Key: "k", Align: n%20 - 1})
		parcel.Build([]api.Entry{{Path: string(data), Body: data}, {Path: "a", Body: data}}, api.Config{Key: "k", Align: 1 + n%16, Pack: n%3 == 0})
		headed := append([]byte{'P', 'L', byte(1 + n%16), byte(n % 2), byte(n % 256)}, data...)
		for _, p := range [][]byte{data, sealed("k", data), sealed("k", headed)} {
			parcel.Verify(p, "k")
			parcel.Find(p, string(data[:len(data)%20]), "k")
			parcel.Replace(p, api.Entry{Path: string(data[:len(data)%20]), Body: data}, "k")
			parcel.Drop(p, string(data[:len(data)%20]), "k")
		}
	}
	good := slowPackage(letters(20), api.Config{Key: "k", Align: 1})
	for _, b := range []byte{0, 1, '/', '.', 'a', 127, 128, 191, 192, 255} {
		data := bytes.Repeat([]byte{b}, 1000000)
		parcel.Sum(data)
		parcel.Tag(string(data), data)
		parcel.Tag("k", data)
		parcel.Pack(data)
		parcel.Unpack(data)
		parcel.Path(string(data))
		parcel.Build([]api.Entry{{Path: "a", Body: data}, {Path: string(data)}, {Path: string(data) + "/"}}, api.Config{Key: "k", Align: 3, Pack: true})
		parcel.Build([]api.Entry{{Path: "a", Body: data}}, api.Config{Key: string(data), Align: math.MinInt, Pack: true})
		parcel.Build([]api.Entry{{Path: "a", Body: data}}, api.Config{Key: "k", Align: math.MaxInt, Pack: true})
		parcel.Verify(data, "k")
		parcel.Verify(data, string(data))
		parcel.Find(data, string(data), "k")
		parcel.Replace(data, api.Entry{Path: string(data), Body: data}, "k")
		parcel.Replace(good, api.Entry{Path: string(data), Body: data}, "k")
		parcel.Replace(good, api.Entry{Path: "a", Body: data}, "k")
		parcel.Replace(good, api.Entry{Path: "a/" + string(data), Body: data}, string(data))
		parcel.Drop(data, string(data), string(data))
		parcel.Drop(good, string(data), "k")
		for _, n := range []int{0, 1, 2, 3, 4, 5, 6, 7, 12, 13, 14, 1000, api.MaxPackage - 8, api.MaxPackage - 7} {
			for _, p := range [][]byte{sealed("k", data[:n]), sealed("k", append([]byte("PL\x01\x01"), data[:n]...))} {
				parcel.Verify(p, "k")
				parcel.Find(p, string(data), "k")
				parcel.Replace(p, api.Entry{Path: "a", Body: data[:n]}, "k")
				parcel.Drop(p, string(data), "k")
			}
		}
	}
	parcel.Build(make([]api.Entry, 1000000), api.Config{Key: "k", Align: 1})
}

// entriesInRoom: entries as a list with spare room behind it, and behind each body; and all the rooms.
func entriesInRoom(entries []api.Entry) (list, whole []api.Entry, rooms [][]byte) {
	for _, e := range entries {
		body, room := inRoom(e.Body)
		whole = append(whole, api.Entry{Path: e.Path, Body: body})
		rooms = append(rooms, room)
	}
	for range 30 {
		whole = append(whole, api.Entry{Path: "spare"})
	}
	return whole[:len(entries)], whole, rooms
}

// entryLists: a few that Build takes, and a few that it refuses.
func entryLists() [][]api.Entry {
	return [][]api.Entry{
		nil, named("b", "a"), named("c", "b", "a", "aa"), letters(20), {sized("b", 600), sized("a", 0), {Path: "c", Body: bytes.Repeat([]byte("a"), 600)}},
		letters(21), named("b", "A"), named("b", "a", "b"), named("b/a", "b"), {sized("b", 10), sized("a", 601)},
		{sized("g", 600), sized("f", 600), sized("e", 600), sized("d", 600), sized("c", 600), sized("b", 600), sized("a", 600)},
	}
}

// checkBuildFresh: that Build writes into nothing that is handed in, and that what comes out shares nothing with it nor with what comes out later.
func checkBuildFresh(t *testing.T, entries []api.Entry, c api.Config) {
	list, whole, rooms := entriesInRoom(entries)
	before := fmt.Sprintf("%q %q", whole, rooms)
	first, e, path := parcel.Build(list, c)
	want := bytes.Clone(first)
	second, _, _ := parcel.Build(list, c)
	if !bytes.Equal(second, want) {
		t.Errorf("P2: Build of %s= %x, and then %x", told(entries), want, second)
	}
	overwrite(first)
	if fmt.Sprintf("%q %q", whole, rooms) != before {
		t.Errorf("P2: Build of %s: what was handed in, or the room behind it, was written into", told(entries))
	}
	third, f, again := parcel.Build(list, c)
	if f != e || again != path || !bytes.Equal(second, want) || !bytes.Equal(third, want) {
		t.Errorf("P2: Build of %s= %x, %d, %q behind a change of what came out, want %x, %d, %q", told(entries), third, f, again, want, e, path)
	}
	for _, room := range rooms {
		overwrite(room)
	}
	for i := range whole {
		whole[i].Path = "other"
	}
	parcel.Build(list, c)
	if !bytes.Equal(second, want) || !bytes.Equal(third, want) {
		t.Errorf("P2: Build of %s: what came out has been changed", told(entries))
	}
}

func TestBuildIsFresh(t *testing.T) {
	for _, entries := range entryLists() {
		checkBuildFresh(t, entries, api.Config{Key: "k", Align: 1})
		checkBuildFresh(t, entries, api.Config{Key: "k", Align: 16, Pack: true})
		checkBuildFresh(t, entries, api.Config{Key: "", Align: 16, Pack: true})
	}
}

// Other calls between two equal ones change nothing.
func TestBuildHangsOnItsArgumentsAlone(t *testing.T) {
	r := rand.New(rand.NewSource(10))
	entries := named("c", "a/b", "b", "a/a")
	c := api.Config{Key: "key", Align: 5, Pack: true}
	first, _, _ := parcel.Build(entries, c)
	kept := bytes.Clone(first)
	for range 500 {
		parcel.Build(randomEntries(r, 22), randomConfig(r))
		again, e, path := parcel.Build(entries, c)
		if e != api.OK || path != "" || !bytes.Equal(again, kept) || !bytes.Equal(first, kept) {
			t.Fatalf("P2: Build = %x, %d, %q, and earlier %x, want %x", again, e, path, first, kept)
		}
	}
}

// packages: a few that Verify takes with the key "k", and a few that it refuses.
func packages() [][]byte {
	l := [][]byte{nil, []byte("PL\x01\x00\x00"), sealed("l", []byte("PL\x01\x00\x00")), sealed("k", []byte("PL\x00\x00\x00")), make([]byte, 100), make([]byte, api.MaxPackage+1)}
	for _, entries := range entryLists()[:5] {
		for _, c := range []api.Config{{Key: "k", Align: 1}, {Key: "k", Align: 16, Pack: true}} {
			p := slowPackage(entries, c)
			l = append(l, p, sealed("k", p[:len(p)-9]))
		}
	}
	return l
}

// checkVerifyFresh: that Verify writes into nothing that is handed in, and that what comes out shares nothing with it, nor with what else comes out.
func checkVerifyFresh(t *testing.T, p []byte) {
	list, room := inRoom(p)
	before := bytes.Clone(room)
	first, c, e := parcel.Verify(list, "k")
	want := fmt.Sprintf("%q", first)
	second, _, _ := parcel.Verify(list, "k")
	if fmt.Sprintf("%q", second) != want {
		t.Errorf("P2: Verify(%x) = %s, and then %s", p, want, told(second))
	}
	for i := range first {
		kept := bytes.Clone(first[i].Body)
		rest := fmt.Sprintf("%q %q", first[:i], first[i+1:])
		overwrite(first[i].Body)
		if fmt.Sprintf("%q %q", first[:i], first[i+1:]) != rest {
			t.Errorf("P2: Verify(%x): the body of %q shares memory with another one", p, first[i].Path)
		}
		if len(kept) > 0 && bytes.Equal(first[i].Body, kept) {
			t.Errorf("P2: Verify(%x): the body of %q could not be written into", p, first[i].Path)
		}
	}
	spare := first[:cap(first)]
	for i := range spare {
		spare[i] = api.Entry{Path: "other"}
	}
	if !bytes.Equal(room, before) || fmt.Sprintf("%q", second) != want {
		t.Errorf("P2: Verify(%x): what came out shares memory", p)
	}
	third, d, f := parcel.Verify(list, "k")
	if f != e || d != c || fmt.Sprintf("%q", third) != want {
		t.Errorf("P2: Verify(%x) = %s, %+v, %d behind a change of what came out, want %s, %+v, %d", p, told(third), d, f, want, c, e)
	}
	overwrite(room)
	parcel.Verify(list, "k")
	if fmt.Sprintf("%q", second) != want || fmt.Sprintf("%q", third) != want {
		t.Errorf("P2: Verify(%x): what came out has been changed", p)
	}
}

func TestVerifyIsFresh(t *testing.T) {
	for _, p := range packages() {
		checkVerifyFresh(t, p)
	}
}

func TestFindIsFresh(t *testing.T) {
	for _, p := range packages() {
		for _, path := range []string{"a", "b", "z", "spare", "A"} {
			checkFresh(t, "Find", func(p []byte) ([]byte, api.Errno) { return parcel.Find(p, path, "k") }, p)
		}
	}
}

// What Verify gave is not changed by what Find gave, nor by other calls.
func TestReadingHangsOnItsArgumentsAlone(t *testing.T) {
	r := rand.New(rand.NewSource(12))
	p := slowPackage(named("c", "a/b", "b", "a/a"), api.Config{Key: "key", Align: 5, Pack: true})
	entries, c, _ := parcel.Verify(p, "key")
	body, _ := parcel.Find(p, "a/b", "key")
	for range 500 {
		d := randomConfig(r)
		other, _, _ := parcel.Build(randomEntries(r, 10), d)
		parcel.Verify(other, d.Key)
		parcel.Find(other, "a", d.Key)
		again, d, e := parcel.Verify(p, "key")
		if e != api.OK || d != c || !sameEntries(again, named("a/a", "a/b", "b", "c")) || !sameEntries(again, entries) {
			t.Fatalf("P2: Verify = %s, %+v, %d, and earlier %s, %+v", told(again), d, e, told(entries), c)
		}
		found, e := parcel.Find(p, "a/b", "key")
		if e != api.OK || string(found) != "a/b" || string(body) != "a/b" {
			t.Fatalf("P2: Find = %q, %d, and earlier %q", found, e, body)
		}
		overwrite(found)
		overwrite(again[1].Body)
	}
}

// checkReplaceFresh: that Replace writes into nothing that is handed in, and that what comes out shares nothing with it nor with what comes out later.
func checkReplaceFresh(t *testing.T, p []byte, x api.Entry) {
	list, room := inRoom(p)
	body, bodyRoom := inRoom(x.Body)
	e := api.Entry{Path: x.Path, Body: body}
	before, bodyBefore := bytes.Clone(room), bytes.Clone(bodyRoom)
	first, fault, path := parcel.Replace(list, e, "k")
	want := bytes.Clone(first)
	second, _, _ := parcel.Replace(list, e, "k")
	if !bytes.Equal(second, want) {
		t.Errorf("P2: Replace(%x, %q) = %x, and then %x", p, x.Path, want, second)
	}
	overwrite(first)
	if !bytes.Equal(room, before) || !bytes.Equal(bodyRoom, bodyBefore) {
		t.Errorf("P2: Replace(%x, %q): what was handed in, or the room behind it, was written into", p, x.Path)
	}
	third, f, again := parcel.Replace(list, e, "k")
	if f != fault || again != path || !bytes.Equal(second, want) || !bytes.Equal(third, want) {
		t.Errorf("P2: Replace(%x, %q) = %x, %d, %q behind a change of what came out, want %x, %d, %q", p, x.Path, third, f, again, want, fault, path)
	}
	overwrite(room)
	overwrite(bodyRoom)
	parcel.Replace(list, e, "k")
	if !bytes.Equal(second, want) || !bytes.Equal(third, want) {
		t.Errorf("P2: Replace(%x, %q): what came out has been changed", p, x.Path)
	}
}

func TestReplaceIsFresh(t *testing.T) {
	for _, p := range packages() {
		for _, x := range []api.Entry{sized("a", 0), sized("a", 50), sized("b", 600), sized("new", 30), {Path: "new", Body: bytes.Repeat([]byte("n"), 600)}, sized("A", 10), sized("b/c", 10), sized("z", 601)} {
			checkReplaceFresh(t, p, x)
		}
	}
}

func TestDropIsFresh(t *testing.T) {
	for _, p := range packages() {
		for _, path := range []string{"a", "b", "z", "not-there", "A"} {
			checkFresh(t, "Drop", func(p []byte) ([]byte, api.Errno) { return parcel.Drop(p, path, "k") }, p)
		}
	}
}

// An entry whose body is a part of the package itself, or of what Verify gave of it, is as good as any other.
func TestReplaceWithAPartOfThePackage(t *testing.T) {
	c := api.Config{Key: "k", Align: 8, Pack: true}
	p := slowPackage(named("a", "b", "c"), c)
	kept := bytes.Clone(p)
	want := slowPackage([]api.Entry{{Path: "a", Body: bytes.Clone(p[3:20])}, {Path: "b", Body: []byte("b")}, {Path: "c", Body: []byte("c")}}, c)
	q, e, _ := parcel.Replace(p, api.Entry{Path: "a", Body: p[3:20]}, "k")
	if e != api.OK || !bytes.Equal(q, want) || !bytes.Equal(p, kept) {
		t.Errorf("P2, P12: Replace with a part of the package = %x, %d, want %x", q, e, want)
	}
	overwrite(q)
	if !bytes.Equal(p, kept) {
		t.Errorf("P2: Replace gave a part of what was handed in")
	}
	entries, _, _ := parcel.Verify(p, "k")
	q, e, _ = parcel.Replace(p, api.Entry{Path: "a", Body: entries[1].Body}, "k")
	overwrite(q)
	if e != api.OK || !sameEntries(entries, named("a", "b", "c")) {
		t.Errorf("P2: Replace gave a part of what Verify gave: %s, %d", told(entries), e)
	}
}

// What the calls gave is changed by no later call, nor by a change of what another one gave.
func TestEditsHangOnTheirArgumentsAlone(t *testing.T) {
	r := rand.New(rand.NewSource(15))
	c := api.Config{Key: "key", Align: 5, Pack: true}
	p := slowPackage(named("c", "a/b", "b", "a/a"), c)
	x := api.Entry{Path: "b", Body: []byte("another body")}
	replaced, _, _ := parcel.Replace(p, x, "key")
	dropped, _ := parcel.Drop(p, "b", "key")
	keptReplaced := slowPackage(append(named("c", "a/b", "a/a"), x), c)
	keptDropped := slowPackage(named("c", "a/b", "a/a"), c)
	for range 500 {
		d := randomConfig(r)
		other, _, _ := parcel.Build(randomEntries(r, 10), d)
		q, _, _ := parcel.Replace(other, api.Entry{Path: randomPath(r), Body: randomBytes(r, r.Intn(100), 4)}, d.Key)
		overwrite(q)
		q, _ = parcel.Drop(other, randomPath(r), d.Key)
		overwrite(q)
		entries, _, _ := parcel.Verify(p, "key")
		overwrite(entries[2].Body)
		q, e, path := parcel.Replace(p, x, "key")
		if e != api.OK || path != "" || !bytes.Equal(q, keptReplaced) || !bytes.Equal(replaced, keptReplaced) {
			t.Fatalf("P2: Replace = %x, %d, %q, and earlier %x, want %x", q, e, path, replaced, keptReplaced)
		}
		overwrite(q)
		q, e = parcel.Drop(p, "b", "key")
		if e != api.OK || !bytes.Equal(q, keptDropped) || !bytes.Equal(dropped, keptDropped) {
			t.Fatalf("P2: Drop = %x, %d, and earlier %x, want %x", q, e, dropped, keptDropped)
		}
		overwrite(q)
	}
}
