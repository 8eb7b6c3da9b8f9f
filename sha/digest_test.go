package sha_test

import (
	"bytes"
	"crypto/sha256"
	"strings"
	"testing"

	"smithy/sha"
)

// mixed is n bytes that differ from place to place.
func mixed(n int) []byte {
	b := make([]byte, n)
	for i := range b {
		b[i] = byte(i*7 + 1)
	}
	return b
}

// inPieces is the digest of b, written in pieces of size bytes, the last one shorter.
func inPieces(b []byte, size int) sha.Sum {
	s := sha.New()
	for len(b) > 0 {
		n := min(size, len(b))
		s.Write(b[:n])
		b = b[n:]
	}
	return s.Sum()
}

// P2.1: digests that others worked out, those of FIPS 180-4's examples among them.
func TestOfKnown(t *testing.T) {
	for _, x := range []struct {
		name string
		b    []byte
		want string
	}{
		{"nil", nil, "e3b0c44298fc1c149afbf4c8996fb92427ae41e4649b934ca495991b7852b855"},
		{"empty", []byte{}, "e3b0c44298fc1c149afbf4c8996fb92427ae41e4649b934ca495991b7852b855"},
		{"abc", []byte("abc"), "ba7816bf8f01cfea414140de5dae2223b00361a396177a9cb410ff61f20015ad"},
		{"two blocks", []byte("abcdbcdecdefdefgefghfghighijhijkijkljklmklmnlmnomnopnopq"), "248d6a61d20638b8e5c026930c3e6039a33ce45964ff2167f6ecedd419db06c1"},
		{"a million", []byte(strings.Repeat("a", 1000000)), "cdc76e5c9914fb9281a1c7e284d73e67f1809a48a497200e046d39ccc7112cd0"},
		{"55", mixed(55), "16fa57a0a3423a715d594516339f36189d6b5f93754a9714fef202616a9fabfe"},
		{"56", mixed(56), "c37b44e5f1b18554b36966f4f8e08bfbf3164c4b6c10374d12d89850892073c5"},
		{"63", mixed(63), "bbba992d2c85af960fb2987a1fd05e0aa82a3db3c740dd8982a9e273b75e36a3"},
		{"64", mixed(64), "66bd4633ed6f71c4ecfa4763bf7ba1c8ec7612de9aa6c0578a7b675207c71e0b"},
		{"65", mixed(65), "9f7dc47107b750a1f3d35db5d9547f24ef40da5b731b9540d4f43710a154f6c9"},
		{"119", mixed(119), "a3ed307b730fa77c07531300c6e4a282330011d4d4caf6bb7b63ae05950f4b66"},
		{"120", mixed(120), "8e3b15d9fea7472655aa069620b7f8c2e55ee1499f763200a7515fe826e99d20"},
		{"128", mixed(128), "e462c130fef8c97e34f7dc3ff3ad2f8b3533ab849af21c10531552a2852387a4"},
	} {
		if got := sha.Text(sha.Of(x.b)); got != x.want {
			t.Errorf("Of %s: %s", x.name, got)
		}
	}
}

// P2.1: every length across several blocks, against the library's way.
func TestOfLengths(t *testing.T) {
	all := mixed(700)
	for n := range len(all) + 1 {
		if sha.Of(all[:n]) != sha256.Sum256(all[:n]) {
			t.Errorf("Of %d bytes", n)
		}
	}
	for b := range 256 {
		one := []byte{byte(b)}
		if sha.Of(one) != sha256.Sum256(one) {
			t.Errorf("Of the byte %d", b)
		}
	}
}

// P2.1: a length whose bits are more than 32 bits can tell.
func TestLongText(t *testing.T) {
	if testing.Short() {
		t.Skip("some seconds")
	}
	piece := mixed(1 << 20)
	s, plain := sha.New(), sha256.New()
	for range 1<<9 + 1 {
		s.Write(piece)
		plain.Write(piece)
	}
	if got := s.Sum(); !bytes.Equal(got[:], plain.Sum(nil)) {
		t.Errorf("%x", got)
	}
}

// P2.1: pieces of one length, for every length to beyond two blocks.
func TestWriteSizes(t *testing.T) {
	for _, n := range []int{0, 1, 55, 56, 63, 64, 65, 119, 120, 127, 128, 129, 300} {
		b := mixed(n)
		for size := 1; size <= 130; size++ {
			if inPieces(b, size) != sha256.Sum256(b) {
				t.Errorf("%d bytes in pieces of %d", n, size)
			}
		}
	}
}

// P2.1: two pieces, cut at every place.
func TestWriteCuts(t *testing.T) {
	for n := range 200 {
		b := mixed(n)
		for cut := range n + 1 {
			s := sha.New()
			s.Write(b[:cut])
			s.Write(b[cut:])
			if s.Sum() != sha256.Sum256(b) {
				t.Errorf("%d bytes, cut at %d", n, cut)
			}
		}
	}
}

// P2.1: a piece of no bytes counts for nothing, wherever it comes.
func TestWriteNothing(t *testing.T) {
	s := sha.New()
	if s.Sum() != sha.Of(nil) {
		t.Error("New")
	}
	b := mixed(130)
	for i := range b {
		s.Write(nil)
		s.Write(b[i : i+1])
		s.Write([]byte{})
		if s.Sum() != sha256.Sum256(b[:i+1]) {
			t.Errorf("%d bytes", i+1)
		}
	}
}

// P2.1: Sum ends nothing: it is asked twice after each piece, and the digest goes on behind it.
func TestSumBetween(t *testing.T) {
	b := mixed(1000)
	s := sha.New()
	at := 0
	for i := 0; at < len(b); i++ {
		n := min(i*13%150, len(b)-at)
		s.Write(b[at : at+n])
		at += n
		want := sha.Sum(sha256.Sum256(b[:at]))
		if s.Sum() != want || s.Sum() != want {
			t.Fatalf("%d bytes", at)
		}
	}
}

// P2.1: two digests under way don't meet, nor do a digest and a copy of it.
func TestStatesApart(t *testing.T) {
	one, two := sha.New(), sha.New()
	one.Write([]byte("one"))
	two.Write([]byte("two and more"))
	third := *one
	third.Write([]byte(" and a third"))
	one.Write([]byte("!"))
	for _, x := range []struct {
		got  sha.Sum
		text string
	}{
		{one.Sum(), "one!"},
		{two.Sum(), "two and more"},
		{third.Sum(), "one and a third"},
		{sha.New().Sum(), ""},
	} {
		if x.got != sha256.Sum256([]byte(x.text)) {
			t.Error(x.text)
		}
	}
}

// P2.1, P0.4: what is handed in is neither changed nor kept, and what lies behind its length isn't read.
func TestWriteMemory(t *testing.T) {
	for _, n := range []int{0, 1, 63, 64, 65, 200} {
		room := mixed(n + 80)
		before := bytes.Clone(room)
		want := sha.Sum(sha256.Sum256(before[:n]))
		if sha.Of(room[:n]) != want {
			t.Errorf("Of %d bytes", n)
		}
		s := sha.New()
		s.Write(room[:n])
		if !bytes.Equal(room, before) {
			t.Errorf("%d bytes: changed", n)
		}
		for i := range room {
			room[i] = 'x'
		}
		if s.Sum() != want {
			t.Errorf("%d bytes: kept", n)
		}
	}
}
