package coder_test

import (
	"math"
	"math/big"
	"strconv"
	"strings"

	"halide/api"
)

// The chapter's words, by whole numbers of any size and by texts of 0 and 1: slow, and apart from the program.

// foldTold: P17.1.
func foldTold(d uint32) uint32 {
	n := int64(d)
	if n < 1<<31 {
		return uint32(2 * n)
	}
	return uint32(2*(1<<32-n) - 1)
}

// unfoldTold: 0, -1, 1, -2, .. of 0, 1, 2, 3, .., modulo 2^32.
func unfoldTold(z uint32) uint32 {
	n := int64(z) / 2
	if z%2 == 1 {
		n = -1 - n
	}
	return uint32((n + 1<<32) % (1 << 32))
}

// told: P17.2's sum and count.
type told struct{ sum, count *big.Int }

func toldFirst() told { return told{big.NewInt(16), big.NewInt(1)} }

func (c told) k() int {
	for k := range 32 {
		if new(big.Int).Lsh(c.count, uint(k)).Cmp(c.sum) >= 0 {
			return k
		}
	}
	return 31
}

func (c told) learn(z uint32) {
	c.sum.Add(c.sum, big.NewInt(int64(z)))
	c.count.Add(c.count, big.NewInt(1))
	if c.count.Cmp(big.NewInt(64)) == 0 {
		c.sum.Div(c.sum, big.NewInt(2))
		c.count.SetInt64(32)
	}
}

// lowest: the n lowest bits of z, the highest first.
func lowest(z uint32, n int) string {
	all := strconv.FormatUint(1<<32+uint64(z), 2)
	return all[len(all)-n:]
}

// spellTold: z, where k is that.
func spellTold(z uint32, k int) string {
	q := new(big.Int).Div(big.NewInt(int64(z)), new(big.Int).Lsh(big.NewInt(1), uint(k)))
	if q.Cmp(big.NewInt(24)) < 0 {
		return strings.Repeat("1", int(q.Int64())) + "0" + lowest(z, k)
	}
	return strings.Repeat("1", 24) + lowest(z, 32)
}

// bitsTold: of a list, number by number.
func bitsTold(l []uint32) []string {
	c := toldFirst()
	var all []string
	for _, d := range l {
		z := foldTold(d)
		all = append(all, spellTold(z, c.k()))
		c.learn(z)
	}
	return all
}

// packed: P17.3's bytes of a text of bits.
func packed(text string) []byte {
	text += strings.Repeat("0", (8-len(text)%8)%8)
	b := make([]byte, 0, len(text)/8)
	for i := 0; i < len(text); i += 8 {
		n, err := strconv.ParseUint(text[i:i+8], 2, 8)
		if err != nil {
			panic(err)
		}
		b = append(b, byte(n))
	}
	return b
}

func unpacked(b []byte) string {
	var text strings.Builder
	for _, x := range b {
		text.WriteString(lowest(uint32(x), 8))
	}
	return text.String()
}

func encodeTold(l []uint32) ([]byte, int) {
	text := strings.Join(bitsTold(l), "")
	return packed(text), len(text)
}

// numberTold takes one number from the front of a text of bits.
func numberTold(text string, k int) (uint32, string, api.Errno) {
	q, n := 0, k
	for q < 24 {
		if q == len(text) {
			return 0, "", api.ErrCoderShort
		}
		if text[q] == '0' {
			break
		}
		q++
	}
	text = text[q:]
	if q < 24 {
		text = text[1:]
	} else {
		n = 32
	}
	if len(text) < n {
		return 0, "", api.ErrCoderShort
	}
	z, _ := new(big.Int).SetString("0"+text[:n], 2)
	if q < 24 {
		z.Add(z, new(big.Int).Lsh(big.NewInt(int64(q)), uint(k)))
		if z.Cmp(big.NewInt(math.MaxUint32)) > 0 {
			return 0, "", api.ErrCoderForm
		}
	} else if z.Cmp(new(big.Int).Lsh(big.NewInt(24), uint(k))) < 0 {
		return 0, "", api.ErrCoderForm
	}
	return uint32(z.Uint64()), text[n:], api.OK
}

// decodeTold: P17.4.
func decodeTold(b []byte, n int) ([]uint32, api.Errno) {
	if n < 0 || n > 65536 {
		return nil, api.ErrCoderMany
	}
	c := toldFirst()
	text := unpacked(b)
	var l []uint32
	for range n {
		z, rest, e := numberTold(text, c.k())
		if e != api.OK {
			return nil, e
		}
		c.learn(z)
		l = append(l, unfoldTold(z))
		text = rest
	}
	if len(text) >= 8 || strings.Contains(text, "1") {
		return nil, api.ErrCoderForm
	}
	return l, api.OK
}
