package parcel_test

import (
	"hash/crc32"
	"math/big"
	"math/rand"
	"strings"
	"testing"

	"parcel/api"
	"parcel/parcel"
)

// randomBytes: n bytes, each below limit.
func randomBytes(r *rand.Rand, n, limit int) []byte {
	b := make([]byte, n)
	for i := range b {
		b[i] = byte(r.Intn(limit))
	}
	return b
}

func TestSumOfExamples(t *testing.T) {
	for _, c := range []struct {
		data string
		want int
	}{
		{"", 0}, {"a", 3904355907}, {"123456789", 3421780262},
		{"\x00", 3523407757}, {"\xff", 4278190080}, {"\xff\xff\xff\xff", 4294967295},
	} {
		if got := parcel.Sum([]byte(c.data)); got != c.want {
			t.Errorf("P3: Sum(%q) = %d, want %d", c.data, got, c.want)
		}
	}
	if got := parcel.Sum(nil); got != 0 {
		t.Errorf("P3: Sum(nil) = %d", got)
	}
}

// The sum of the document is the well-known CRC-32, of which the library has another program.
func TestSumOfManyBytes(t *testing.T) {
	r := rand.New(rand.NewSource(3))
	for n := range 700 {
		data := randomBytes(r, n, 256)
		if got, want := parcel.Sum(data), int(crc32.ChecksumIEEE(data)); got != want {
			t.Fatalf("P3: Sum of %d bytes = %d, want %d", n, got, want)
		}
	}
	for b := range 256 {
		data := []byte{byte(b)}
		if got, want := parcel.Sum(data), int(crc32.ChecksumIEEE(data)); got != want {
			t.Errorf("P3: Sum(%x) = %d, want %d", data, got, want)
		}
	}
	data := randomBytes(r, 3000000, 256)
	if got, want := parcel.Sum(data), int(crc32.ChecksumIEEE(data)); got != want {
		t.Errorf("P3: Sum of three million bytes = %d, want %d", got, want)
	}
}

func TestTagOfExamples(t *testing.T) {
	for _, c := range []struct {
		key, data string
		want      int
	}{
		{"k", "", 27864}, {"\x00", "", 258}, {"\x00", "\x00", 66307}, {"k", "a", 7158586}, {"k", "aa", 1839754140},
		{"\xfc", "\x04\xfb", 0}, {"d", "gec", api.Modulus - 1}, // the least and the greatest rest
	} {
		got, e := parcel.Tag(c.key, []byte(c.data))
		if got != c.want || e != api.OK {
			t.Errorf("P4: Tag(%q, %q) = %d, %d, want %d", c.key, c.data, got, e, c.want)
		}
	}
}

func TestTagOfKeysThatAreNone(t *testing.T) {
	for _, key := range []string{"", strings.Repeat("k", api.MaxKey+1), strings.Repeat("é", api.MaxKey/2) + "k", strings.Repeat("k", 3000000)} {
		for _, data := range [][]byte{nil, []byte("a")} {
			got, e := parcel.Tag(key, data)
			if got != 0 || e != api.ErrKey {
				t.Errorf("P4: Tag of a key of %d bytes = %d, %d", len(key), got, e)
			}
		}
	}
}

// slowTag: the tag without a rest being taken before the end.
func slowTag(key string, data []byte) int {
	h := new(big.Int)
	for _, b := range []byte(key + string(data) + key) {
		h.Mul(h, big.NewInt(257))
		h.Add(h, big.NewInt(int64(b)+1))
		h.Mod(h, big.NewInt(api.Modulus))
	}
	return int(h.Int64())
}

func TestTagOfManyBytes(t *testing.T) {
	r := rand.New(rand.NewSource(4))
	for n := range 300 {
		key := string(randomBytes(r, 1+n%api.MaxKey, 256))
		data := randomBytes(r, n, 256)
		got, e := parcel.Tag(key, data)
		if want := slowTag(key, data); got != want || e != api.OK {
			t.Fatalf("P4: Tag(%q, %x) = %d, %d, want %d", key, data, got, e, want)
		}
	}
	highest := strings.Repeat("\xff", api.MaxKey)
	data := []byte(strings.Repeat("\xff", api.MaxPackage))
	got, e := parcel.Tag(highest, data)
	if want := slowTag(highest, data); got != want || e != api.OK {
		t.Errorf("P4: Tag of the highest bytes = %d, %d, want %d", got, e, want)
	}
}
