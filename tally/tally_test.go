package tally

import (
	"bytes"
	"hash/crc32"
	"strings"
	"testing"
)

// castagnoli is the table of the library's CRC-32C.
var castagnoli = crc32.MakeTable(crc32.Castagnoli)

// texts are bytes of many lengths, all alike and of all kinds.
func texts() [][]byte {
	l := [][]byte{nil, {}, []byte("a"), []byte("123456789"), []byte("abc\x00"), []byte("\x00abc")}
	mixed := make([]byte, 3000)
	n := uint32(1)
	for i := range mixed {
		n = n*1664525 + 1013904223
		mixed[i] = byte(n >> 24)
	}
	for _, size := range []int{1, 2, 3, 4, 5, 7, 8, 9, 31, 32, 33, 255, 256, 257, 1000, 3000} {
		l = append(l, bytes.Repeat([]byte{0}, size), bytes.Repeat([]byte{0xff}, size), mixed[:size], mixed[3000-size:])
	}
	return l
}

// P4.1: Sum is CRC-32C.
func TestSum(t *testing.T) {
	known := map[string]uint32{
		"": 0, "123456789": 0xe3069283, "a": 0xc1d04330, "\x00": 0x527d5351, "\xff": 0xff000000,
		strings.Repeat("\x00", 32): 0x8a9136aa, strings.Repeat("\xff", 32): 0x62a8ab43,
	}
	for s, want := range known {
		if got := Sum([]byte(s)); got != want {
			t.Errorf("Sum(%x) = %x, not %x", s, got, want)
		}
	}
	for _, p := range texts() {
		if got, want := Sum(p), crc32.Checksum(p, castagnoli); got != want {
			t.Errorf("Sum(%x) = %x, not %x", p, got, want)
		}
	}
	for first := range 256 {
		for second := range 256 {
			p := []byte{byte(first), byte(second)}
			if got, want := Sum(p), crc32.Checksum(p, castagnoli); got != want {
				t.Fatalf("Sum(%x) = %x, not %x", p, got, want)
			}
		}
	}
}

// P4.1: Sum is made of the Table's lines, as the document tells it.
func TestSumByTable(t *testing.T) {
	lines := Table()
	for _, p := range texts() {
		sum := uint32(0xffffffff)
		for _, b := range p {
			sum = lines[byte(sum)^b] ^ sum>>8
		}
		if got := Sum(p); got != ^sum {
			t.Errorf("Sum(%x) = %x, not %x", p, got, ^sum)
		}
	}
}

// P4.1: a line of the Table is its byte, eight times one place lower, turned where a one fell out.
func TestTable(t *testing.T) {
	lines := Table()
	if lines[0] != 0 || lines[1] != 0xf26b8303 || lines[128] != 0x82f63b78 || lines[255] != 0xad7d5351 {
		t.Errorf("Table: %x, %x, %x, %x", lines[0], lines[1], lines[128], lines[255])
	}
	for b := range 256 {
		want := uint32(b)
		for range 8 {
			fell := want%2 == 1
			want /= 2
			if fell {
				want ^= 0x82f63b78
			}
		}
		if lines[b] != want || lines[b] != castagnoli[b] {
			t.Errorf("Table: line %d is %x, not %x", b, lines[b], want)
		}
	}
}

// The rule of memory: each Table is one of its own, that may be written over.
func TestTableMemory(t *testing.T) {
	one := Table()
	clear(one[:])
	if two := Table(); *two == *one || two[128] != 0x82f63b78 || *one != [256]uint32{} {
		t.Error("Table: written over")
	}
	if Sum([]byte("123456789")) != 0xe3069283 {
		t.Error("Sum: behind a Table that was written over")
	}
}

// P4.1: More is the Sum of both, wherever they are parted.
func TestMore(t *testing.T) {
	for _, p := range texts() {
		whole := Sum(p)
		for at := range min(len(p), 300) {
			if got := More(Sum(p[:at]), p[at:]); got != whole {
				t.Fatalf("More of %x, parted at %d: %x, not %x", p, at, got, whole)
			}
		}
		if More(whole, nil) != whole || More(whole, []byte{}) != whole || More(0, p) != whole || More(Sum(nil), p) != whole {
			t.Errorf("More of %x, and of nothing", p)
		}
	}
	var sum uint32
	for _, b := range []byte("123456789") {
		sum = More(sum, []byte{b})
	}
	if sum != 0xe3069283 {
		t.Errorf("More byte by byte: %x", sum)
	}
}

// P4.1: More begins with any sum at all.
func TestMoreOfAnySum(t *testing.T) {
	for _, sum := range []uint32{0, 1, 0x80000000, 0xe3069283, 0xfffffffe, 0xffffffff} {
		for _, p := range texts() {
			if got, want := More(sum, p), crc32.Update(sum, castagnoli, p); got != want {
				t.Errorf("More(%x, %x) = %x, not %x", sum, p, got, want)
			}
		}
	}
}

// P1, P2: what is handed in isn't changed, and what was asked ahead changes no answer.
func TestAnswersHangOnNothingElse(t *testing.T) {
	for _, p := range texts() {
		before, sum, more := bytes.Clone(p), Sum(p), More(7, p)
		Table()
		Sum([]byte("other"))
		if Sum(p) != sum || More(7, p) != more || !bytes.Equal(before, p) {
			t.Errorf("of %x", before)
		}
	}
	much := make([]byte, 1<<24)
	if got, want := Sum(much), crc32.Checksum(much, castagnoli); got != want {
		t.Errorf("Sum of much: %x, not %x", got, want)
	}
}
