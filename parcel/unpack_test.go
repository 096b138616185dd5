package parcel_test

import (
	"bytes"
	"math/rand"
	"strings"
	"testing"

	"parcel/api"
	"parcel/parcel"
)

// slowUnpack: what is packed given back, by the words of the document.
func slowUnpack(packed []byte) ([]byte, api.Errno) {
	var out []byte
	for len(packed) > 0 {
		head := packed[0]
		packed = packed[1:]
		switch {
		case head <= 127:
			n := int(head) + 1
			if len(packed) < n {
				return nil, api.ErrForm
			}
			out = append(out, packed[:n]...)
			packed = packed[n:]
		case head <= 191:
			if len(packed) == 0 || int(packed[0])+1 > len(out) {
				return nil, api.ErrForm
			}
			d := int(packed[0]) + 1
			for range int(head) - 128 + api.MinMatch {
				out = append(out, out[len(out)-d])
			}
			packed = packed[1:]
		default:
			return nil, api.ErrForm
		}
		if len(out) > api.MaxBody {
			return nil, api.ErrBig
		}
	}
	return out, api.OK
}

// checkUnpack: that some bytes are unpacked, or refused, as the document says.
func checkUnpack(t *testing.T, packed []byte) {
	t.Helper()
	body, e := parcel.Unpack(packed)
	want, f := slowUnpack(packed)
	if e != f || !bytes.Equal(body, want) {
		t.Errorf("P6: Unpack(%x) = %q, %d, want %q, %d", packed, body, e, want, f)
	}
	if e != api.OK && body != nil {
		t.Errorf("P1: Unpack(%x) = %q besides the error %d", packed, body, e)
	}
}

func TestUnpackOfExamples(t *testing.T) {
	for _, c := range []struct{ packed, want string }{
		{"", ""}, {"\x00a\x80\x00", "aaaa"}, {"\x01ab\x80\x01", "ababa"}, {"\x02abc\x82\x00", "abcccccc"},
		// Not what Pack would have made.
		{"\x00a\x00b", "ab"}, {"\x00a\x80\x00\x80\x03", "aaaaaaa"}, {"\x02abc\x80\x02", "abcabc"},
		{"\x00a\xbf\x00", strings.Repeat("a", 67)},
		{"\x7f" + counted()[:128] + "\x7f" + counted()[128:] + "\x80\xff", counted() + "\x00\x01\x02"},
	} {
		body, e := parcel.Unpack([]byte(c.packed))
		if string(body) != c.want || e != api.OK {
			t.Errorf("P6: Unpack(%q) = %q, %d, want %q", c.packed, body, e, c.want)
		}
	}
}

func TestUnpackOfBadForms(t *testing.T) {
	for _, packed := range []string{
		"\x80\x00", "\x02ab", "\xc0\x00", "\x00a\x80", "\x00a\x80\x01",
		"\x00", "\x7f", "\x80", "\xbf", "\xff", "\x00a\xff", "\x00a\xc0\x00", "\x00a\x01b",
		"\x7f" + strings.Repeat("a", 127), "\x03abcd\x80\x04",
	} {
		body, e := parcel.Unpack([]byte(packed))
		if body != nil || e != api.ErrForm {
			t.Errorf("P6: Unpack(%q) = %q, %d", packed, body, e)
		}
	}
}

func TestUnpackAroundTheGreatestBody(t *testing.T) {
	most := "\x00a" + strings.Repeat("\xbf\x00", 9) // 595 bytes come out
	for _, c := range []struct {
		packed string
		n      int
		e      api.Errno
	}{
		{most, 595, api.OK}, {most + "\x82\x00", 600, api.OK}, {most + "\x83\x00", 0, api.ErrBig}, {most + "\xbf\x00", 0, api.ErrBig},
		{most + "\x04abcde", 600, api.OK}, {most + "\x05abcdef", 0, api.ErrBig},
		{strings.Repeat("\x00a", 600), 600, api.OK}, {strings.Repeat("\x00a", 601), 0, api.ErrBig},
		// What comes first is told.
		{most + "\x83\x00\xff", 0, api.ErrBig}, {most + "\xff\xbf\x00", 0, api.ErrForm},
		{most + "\x82\x00\xff", 0, api.ErrForm},
		// Of one piece the form is told.
		{most + "\x7fabc", 0, api.ErrForm}, {most + "\xbf", 0, api.ErrForm}, {"\x00a\xbf\x00\xbf\xff", 0, api.ErrForm},
		{strings.Repeat("\x7f"+strings.Repeat("a", 128), 4) + "\x7f" + strings.Repeat("a", 127), 0, api.ErrForm},
		{strings.Repeat("\x7f"+strings.Repeat("a", 128), 4) + "\x7f" + strings.Repeat("a", 128), 0, api.ErrBig},
		{strings.Repeat("\x7f"+strings.Repeat("a", 128), 30000), 0, api.ErrBig},
	} {
		body, e := parcel.Unpack([]byte(c.packed))
		if len(body) != c.n || e != c.e {
			t.Errorf("P6: Unpack(%.60q) = %d bytes, %d, want %d, %d", c.packed, len(body), e, c.n, c.e)
		}
	}
}

func TestUnpackOfAllShortLists(t *testing.T) {
	for a := range 256 {
		checkUnpack(t, []byte{byte(a)})
		for b := range 256 {
			checkUnpack(t, []byte{byte(a), byte(b)})
			checkUnpack(t, []byte{0, 'x', byte(a), byte(b)})
			checkUnpack(t, []byte{2, 'x', 'y', 'z', byte(a), byte(b)})
		}
	}
}

func TestUnpackOfManyLists(t *testing.T) {
	r := rand.New(rand.NewSource(6))
	for range 20000 {
		checkUnpack(t, randomPieces(r))
	}
	for n := range 2000 {
		checkUnpack(t, randomBytes(r, n%40, 256))
	}
}

// randomPieces: pieces that are whole but for a cut, sometimes, at the end.
func randomPieces(r *rand.Rand) []byte {
	var packed []byte
	came := 0
	for range 1 + r.Intn(16) {
		if came == 0 || r.Intn(3) == 0 {
			n := 1 + r.Intn(1+r.Intn(api.MaxRun))
			packed = append(append(packed, byte(n-1)), randomBytes(r, n, 256)...)
			came += n
			continue
		}
		n := api.MinMatch + r.Intn(api.MaxMatch-api.MinMatch+1)
		packed = append(packed, byte(128+n-api.MinMatch), byte(r.Intn(min(came+came/20+1, api.MaxBack))))
		came += n
	}
	if r.Intn(8) == 0 {
		packed = packed[:len(packed)-1]
	}
	return packed
}
