package parcel_test

import (
	"bytes"
	"math/rand"
	"strings"
	"testing"

	"parcel/api"
	"parcel/parcel"
)

// fits: whether a distance fits for n bytes at a place, by the words of the document.
func fits(body []byte, i, d, n int) bool {
	if i+n > len(body) {
		return false
	}
	for k := i; k < i+n; k++ {
		if body[k] != body[k-d] {
			return false
		}
	}
	return true
}

// slowCopy: the copy at a place, the longest first, then the nearest; 0 if there is none.
func slowCopy(body []byte, i int) (n, d int) {
	for n := api.MaxMatch; n >= api.MinMatch; n-- {
		for d := 1; d <= api.MaxBack && d <= i; d++ {
			if fits(body, i, d, n) {
				return n, d
			}
		}
	}
	return 0, 0
}

// slowPack: a body packed, by the words of the document.
func slowPack(body []byte) []byte {
	var out, run []byte
	flush := func() {
		for len(run) > 0 {
			n := min(len(run), api.MaxRun)
			out = append(append(out, byte(n-1)), run[:n]...)
			run = run[n:]
		}
	}
	for i := 0; i < len(body); {
		n, d := slowCopy(body, i)
		if n == 0 {
			run = append(run, body[i])
			i++
			continue
		}
		flush()
		out = append(out, byte(128+n-api.MinMatch), byte(d-1))
		i += n
	}
	flush()
	return out
}

// checkPack: that a body is packed as the document says, and comes back.
func checkPack(t *testing.T, body []byte) {
	t.Helper()
	packed, e := parcel.Pack(body)
	if want := slowPack(body); e != api.OK || !bytes.Equal(packed, want) {
		t.Errorf("P5: Pack(%q) = %x, %d, want %x", body, packed, e, want)
	}
	back, e := parcel.Unpack(packed)
	if e != api.OK || !bytes.Equal(back, body) {
		t.Errorf("P6: Unpack(%x) = %q, %d, want %q", packed, back, e, body)
	}
}

// counted: the bytes 0 to 255, all different.
func counted() string {
	b := make([]byte, 256)
	for i := range b {
		b[i] = byte(i)
	}
	return string(b)
}

// patternless: up to 600 bytes without three that stand there twice.
func patternless(n int) []byte {
	var b []byte
	for i := 0; len(b) < n; i++ {
		b = append(b, byte(i), byte(i/256), byte(255-i%256))
	}
	return b[:n]
}

func TestPackOfExamples(t *testing.T) {
	all := counted()
	laid := "\x7f" + all[:128] + "\x7f" + all[128:]
	for _, c := range []struct{ body, want string }{
		{"", ""}, {"a", "\x00a"}, {"abc", "\x02abc"}, {"aaa", "\x02aaa"}, {"aaaa", "\x00a\x80\x00"},
		{"abcabc", "\x02abc\x80\x02"}, {"abab", "\x03abab"}, {"ababab", "\x01ab\x81\x01"},
		{strings.Repeat("a", 67), "\x00a\xbf\x00"},
		{strings.Repeat("a", 68), "\x00a\xbf\x00\x00a"},
		{strings.Repeat("a", 70), "\x00a\xbf\x00\x80\x00"},
		{all[:129], "\x7f" + all[:128] + "\x00\x80"},
		{all[:130], "\x7f" + all[:128] + "\x01\x80\x81"},
		// Of two distances that fit equally far, the least.
		{"abcxabcyabc", "\x03abcx\x80\x03\x00y\x80\x03"},
		// A longer copy from further off goes ahead of a nearer one.
		{"abcdxabcyabcd", "\x04abcdx\x80\x04\x00y\x81\x08"},
		// The first copy that is there is taken, though a literal would make a longer one possible.
		{"abcxbcdefgyabcdefg", "\x0aabcxbcdefgy\x80\x0a\x81\x07"},
		// 256 bytes back is near enough, 257 is too far.
		{all + "\x00\x01\x02", laid + "\x80\xff"},
		{all + "~\x00\x01\x02", laid + "\x03~\x00\x01\x02"},
	} {
		packed, e := parcel.Pack([]byte(c.body))
		if string(packed) != c.want || e != api.OK {
			t.Errorf("P5: Pack(%q) = %q, %d, want %q", c.body, packed, e, c.want)
		}
	}
}

// checkAllBodies goes through the bodies of up to n bytes more, of two bytes.
func checkAllBodies(t *testing.T, body []byte, n int) {
	checkPack(t, body)
	if n == 0 {
		return
	}
	for _, b := range []byte("ab") {
		checkAllBodies(t, append(bytes.Clone(body), b), n-1)
	}
}

func TestPackOfAllShortBodies(t *testing.T) {
	checkAllBodies(t, nil, 11)
}

func TestPackOfManyBodies(t *testing.T) {
	r := rand.New(rand.NewSource(5))
	for range 300 {
		checkPack(t, randomBytes(r, r.Intn(api.MaxBody+1), 1+r.Intn(6)))
	}
	for range 100 {
		// Pieces that come again, so that copies are long and far.
		var body []byte
		source := randomBytes(r, 300, 256)
		for len(body) < api.MaxBody {
			from := r.Intn(len(source))
			body = append(body, source[from:min(len(source), from+r.Intn(90))]...)
		}
		checkPack(t, body[:api.MaxBody])
	}
}

func TestPackAroundTheLimitsOfPieces(t *testing.T) {
	for _, n := range []int{1, 127, 128, 129, 255, 256, 257, 384, 385, 599, 600} {
		checkPack(t, patternless(n))
	}
	for n := range api.MaxBody + 1 {
		checkPack(t, bytes.Repeat([]byte("a"), n))
	}
	for gap := 250; gap <= 260; gap++ {
		for n := 1; n <= 70; n++ {
			body := append(patternless(gap), patternless(n)...)
			checkPack(t, body)
		}
	}
}

func TestPackOfBodiesTooLong(t *testing.T) {
	for _, n := range []int{api.MaxBody + 1, api.MaxBody + 2, 5000000} {
		packed, e := parcel.Pack(bytes.Repeat([]byte("a"), n))
		if packed != nil || e != api.ErrBig {
			t.Errorf("P5: Pack of %d bytes = %d bytes, %d", n, len(packed), e)
		}
	}
	for _, body := range [][]byte{bytes.Repeat([]byte("a"), api.MaxBody), patternless(api.MaxBody)} {
		if _, e := parcel.Pack(body); e != api.OK {
			t.Errorf("P5: Pack of %d bytes = %d", len(body), e)
		}
	}
}
