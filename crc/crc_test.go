package crc_test

import (
	"bytes"
	"hash/crc32"
	"testing"

	"skep/crc"
)

// plainMore goes bit by bit as P2.1 says it, on a register of 32 bools.
func plainMore(s uint32, b []byte) uint32 {
	var register [32]bool
	for i := range register {
		register[i] = s>>i&1 == 0
	}
	for _, c := range b {
		for i := range 8 {
			sum := register[0] != (c>>i&1 == 1)
			copy(register[:], register[1:])
			register[31] = false
			for k := range register {
				register[k] = register[k] != (sum && uint32(0xedb88320)>>k&1 == 1)
			}
		}
	}
	var out uint32
	for i, on := range register {
		if !on {
			out |= 1 << i
		}
	}
	return out
}

// spread is n bytes that look like any, the same at each run.
func spread(n int, seed uint64) []byte {
	out := make([]byte, n)
	for i := range out {
		seed = seed*6364136223846793005 + 1442695040888963407
		out[i] = byte(seed >> 56)
	}
	return out
}

// somePieces is bytes of many lengths and kinds.
func somePieces() [][]byte {
	out := [][]byte{nil, {}, {0}, {255}, make([]byte, 40), bytes.Repeat([]byte{255}, 40)}
	for n := range 70 {
		out = append(out, spread(n, uint64(n)))
	}
	return append(out, spread(1000, 1), spread(4096, 2))
}

var someSums = []uint32{0, 1, 2, 0x7fffffff, 0x80000000, 0xfffffffe, 0xffffffff, 0xedb88320, 0x12477cdf, 0xcbf43926, 0xdebb20e3, 0x2144df1c, 0x01234567}

// P2.1: the chapter's examples, no bytes, single bytes, known sums.
func TestOfKnown(t *testing.T) {
	for _, c := range []struct {
		text string
		want uint32
	}{
		{"123456789", 0xcbf43926},
		{"", 0},
		{"\x00", 0xd202ef8d},
		{"\xff", 0xff000000},
		{"a", 0xe8b7be43},
		{"abc", 0x352441c2},
		{"\x00\x00\x00\x00", 0x2144df1c},
		{"\xff\xff\xff\xff", 0xffffffff},
		{"The quick brown fox jumps over the lazy dog", 0x414fa339},
	} {
		if got := crc.Of([]byte(c.text)); got != c.want {
			t.Errorf("Of(%q) = %#x, want %#x", c.text, got, c.want)
		}
		if got := crc.More(0, []byte(c.text)); got != c.want {
			t.Errorf("More(0, %q) = %#x, want %#x", c.text, got, c.want)
		}
	}
	if crc.Of(nil) != 0 {
		t.Errorf("Of(nil) = %#x", crc.Of(nil))
	}
}

// P2.1: every single byte, behind every one of some sums.
func TestMoreOneByte(t *testing.T) {
	for c := range 256 {
		b := []byte{byte(c)}
		if got, want := crc.Of(b), plainMore(0, b); got != want {
			t.Errorf("Of(%v) = %#x, want %#x", b, got, want)
		}
		for _, s := range someSums {
			if got, want := crc.More(s, b), plainMore(s, b); got != want {
				t.Errorf("More(%#x, %v) = %#x, want %#x", s, b, got, want)
			}
		}
	}
}

// P2.1: bytes of many lengths behind any sum; no bytes leave each sum as it is.
func TestMoreAnySum(t *testing.T) {
	sums := append([]uint32{}, someSums...)
	for i := range 32 {
		sums = append(sums, 1<<i, ^uint32(1<<i))
	}
	for _, s := range sums {
		if got := crc.More(s, nil); got != s {
			t.Errorf("More(%#x, nil) = %#x", s, got)
		}
		if got := crc.More(s, []byte{}); got != s {
			t.Errorf("More(%#x, {}) = %#x", s, got)
		}
		for _, b := range somePieces() {
			if got, want := crc.More(s, b), plainMore(s, b); got != want {
				t.Fatalf("More(%#x, %d bytes) = %#x, want %#x", s, len(b), got, want)
			}
		}
	}
	for _, b := range somePieces() {
		if got, want := crc.Of(b), plainMore(0, b); got != want {
			t.Errorf("Of(%d bytes) = %#x, want %#x", len(b), got, want)
		}
	}
}

// P2.1: long bytes, as long as a log may be, held against the library's sum of the same register.
func TestLong(t *testing.T) {
	for _, n := range []int{1<<16 - 1, 1 << 16, 1<<16 + 1, 1 << 20, 1 << 24} {
		b := spread(n, uint64(n))
		if got, want := crc.Of(b), crc32.ChecksumIEEE(b); got != want {
			t.Errorf("Of(%d bytes) = %#x, want %#x", n, got, want)
		}
	}
	b := spread(1<<20, 3)
	for _, s := range someSums {
		if got, want := crc.More(s, b), crc32.Update(s, crc32.IEEETable, b); got != want {
			t.Errorf("More(%#x, long) = %#x, want %#x", s, got, want)
		}
	}
}

// P2.1, R3, R4: bytes stay as they were, spare room too, and bytes in spare room are not summed; asked again, the answer is the same.
func TestBytesStay(t *testing.T) {
	whole := spread(300, 9)
	before := bytes.Clone(whole)
	for n := range 200 {
		first, second := crc.Of(whole[:n]), crc.More(77, whole[:n])
		if !bytes.Equal(whole, before) {
			t.Fatalf("bytes turned at %d", n)
		}
		if first != plainMore(0, before[:n]) || second != plainMore(77, before[:n]) {
			t.Fatalf("sum of %d bytes with spare room", n)
		}
		if first != crc.Of(bytes.Clone(before[:n])) || second != crc.More(77, bytes.Clone(before[:n])) {
			t.Fatalf("sum of %d bytes, asked again", n)
		}
	}
}

// P2.2: wherever bytes are cut, in two or in three, the sum is that of the whole.
func TestCutAnywhere(t *testing.T) {
	for _, b := range somePieces()[:60] {
		want := crc.Of(b)
		for i := range len(b) + 1 {
			head := crc.Of(b[:i])
			if got := crc.More(head, b[i:]); got != want {
				t.Fatalf("%d bytes cut at %d: %#x, want %#x", len(b), i, got, want)
			}
			for k := i; k <= len(b); k++ {
				if got := crc.More(crc.More(head, b[i:k]), b[k:]); got != want {
					t.Fatalf("%d bytes cut at %d and %d: %#x, want %#x", len(b), i, k, got, want)
				}
			}
		}
	}
}

// P2.2: the same behind any sum, not only behind that of bytes at hand.
func TestCutBehindAnySum(t *testing.T) {
	b := spread(33, 4)
	for _, s := range someSums {
		for i := range len(b) + 1 {
			if got, want := crc.More(crc.More(s, b[:i]), b[i:]), crc.More(s, b); got != want {
				t.Fatalf("behind %#x, cut at %d: %#x, want %#x", s, i, got, want)
			}
		}
	}
}

// turned is b with those bits of pattern turned that stand from bit at on.
func turned(b []byte, at int, pattern uint32) []byte {
	out := bytes.Clone(b)
	for i := range 32 {
		if pattern>>i&1 == 1 {
			out[(at+i)/8] ^= 1 << ((at + i) % 8)
		}
	}
	return out
}

// P2.2: up to 32 bits in a row, whichever of them are turned, give another sum.
func TestTurnedBits(t *testing.T) {
	for _, b := range [][]byte{make([]byte, 24), spread(24, 5), bytes.Repeat([]byte{255}, 24)} {
		sum := crc.Of(b)
		for at := range 24*8 - 32 + 1 {
			for _, pattern := range turns(at) {
				if crc.Of(turned(b, at, pattern)) == sum {
					t.Fatalf("%#x turned at bit %d is not told", pattern, at)
				}
			}
		}
	}
}

// turns is patterns of 1 to 32 bits, among them rest and its like, which the sum itself is made of.
func turns(at int) []uint32 {
	out := []uint32{0xedb88320, 0x04c11db7, 0x82608edb, 0xdb710641}
	for n := range 32 {
		out = append(out, 1<<n, 0xffffffff>>n, 0x80000001|1<<n)
	}
	seed := uint64(at)
	for range 100 {
		seed = seed*6364136223846793005 + 1442695040888963407
		out = append(out, uint32(seed>>32)|1)
	}
	return out
}

// P2.2: every turn within 16 bits in a row, at the beginning and at the end.
func TestTurnedShort(t *testing.T) {
	b := spread(9, 6)
	sum := crc.Of(b)
	for pattern := uint32(1); pattern < 1<<16; pattern++ {
		for _, at := range []int{0, 3, 9*8 - 32} {
			if crc.Of(turned(b, at, pattern)) == sum || crc.Of(turned(b, at, pattern<<16)) == sum {
				t.Fatalf("%#x turned at bit %d is not told", pattern, at)
			}
		}
	}
}

// P2.2: two runs of four bytes differ within 32 bits in a row, so that no two have one sum; some of all 2^32 are asked.
func TestFourBytesDiffer(t *testing.T) {
	seen := map[uint32]int{}
	for i := range 1 << 16 {
		n := i * 65521
		s := crc.Of([]byte{byte(n), byte(n >> 8), byte(n >> 16), byte(n >> 24)})
		if last, ok := seen[s]; ok {
			t.Fatalf("%d and %d have the sum %#x", last, i, s)
		}
		seen[s] = i
	}
}
