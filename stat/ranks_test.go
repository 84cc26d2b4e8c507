package stat_test

import (
	"fmt"
	"math"
	"testing"

	"halide/api"
	"halide/stat"
)

func checkRanks(t *testing.T, p api.Plane) {
	t.Helper()
	sorted := sortedTold(p.S)
	for k, want := range sorted {
		got, e := stat.Rank(p, k)
		checkSample(t, fmt.Sprintf("Rank(%d) of %08X", k, few(p.S)), got, e, want)
	}
}

func TestP16_5Rank(t *testing.T) {
	for _, z := range [][2]int{{1, 1}, {2, 1}, {1, 2}, {3, 2}, {9, 1}, {1, 9}, {7, 8}, {13, 11}} {
		for _, p := range somePlanes(z[0], z[1]) {
			checkRanks(t, p)
		}
	}
	for _, l := range [][]uint32{edges(), reversed(edges()), sortedTold(edges()), reversed(sortedTold(edges())), shuffled(edges(), chance(5))} {
		checkRanks(t, rowOf(l...))
	}
}

// NaNs with a sign stand ahead of all, those without one behind; of noughts -0.
func TestP16_5RanksOfAllKinds(t *testing.T) {
	p := rowOf(0x7FFFFFFF, 0, infinity+1, one|sign, infinity, 0xFFFFFFFF, minusZero, infinity|sign, infinity+1|sign, leastSmall, leastSmall|sign)
	for k, want := range []uint32{0xFFFFFFFF, infinity + 1 | sign, infinity | sign, one | sign, leastSmall | sign, minusZero, 0, leastSmall, infinity, infinity + 1, 0x7FFFFFFF} {
		got, e := stat.Rank(p, k)
		checkSample(t, fmt.Sprintf("Rank(%d)", k), got, e, want)
	}
}

func TestP16_5RankOfGreatPlanes(t *testing.T) {
	for i, z := range greatSizes() {
		n := z[0] * z[1]
		for _, p := range []api.Plane{counted(z[0], z[1]), filled(z[0], z[1], chance(uint64(i))), allOf(z[0], z[1], made)} {
			sorted := sortedTold(p.S)
			for _, k := range []int{0, 1, n / 3, n / 2, n - 2, n - 1} {
				got, e := stat.Rank(p, k)
				checkSample(t, fmt.Sprintf("Rank(%d)", k), got, e, sorted[k])
			}
		}
	}
}

// wrongRanks: of n samples.
func wrongRanks(n int) []int {
	return []int{-1, n, n + 1, -n, 2 * n, 65536, 1 << 31, 1 << 32, 1<<32 + 1, math.MinInt, math.MinInt + 1, math.MaxInt}
}

func TestP16_5NoRank(t *testing.T) {
	for _, p := range []api.Plane{allOf(1, 1, one), counted(3, 2), allOf(1024, 64, made), counted(256, 256)} {
		for _, k := range wrongRanks(len(p.S)) {
			got, e := stat.Rank(p, k)
			checkNoSample(t, fmt.Sprintf("Rank(%d) of %d", k, len(p.S)), got, e, api.ErrStatShare)
		}
	}
}

// Ahead of a wrong rank, and of a wrong share.
func TestP16_5NoPlane(t *testing.T) {
	for _, c := range refusedPlanes() {
		for _, k := range []int{0, 1, -1, 6, math.MinInt, math.MaxInt} {
			got, e := stat.Rank(c.p, k)
			checkNoSample(t, fmt.Sprintf("Rank(%d) of %d by %d", k, c.p.W, c.p.H), got, e, c.want)
			for _, den := range []int{1, 0, 1<<20 + 1} {
				got, e = stat.Share(c.p, k, den)
				checkNoSample(t, fmt.Sprintf("Share(%d, %d) of %d by %d", k, den, c.p.W, c.p.H), got, e, c.want)
			}
		}
	}
}

func TestP16_5Share(t *testing.T) {
	for _, z := range [][2]int{{1, 1}, {2, 1}, {1, 3}, {3, 2}, {7, 8}} {
		for _, p := range somePlanes(z[0], z[1]) {
			sorted := sortedTold(p.S)
			for den := 1; den <= 20; den++ {
				for num := range den + 1 {
					got, e := stat.Share(p, num, den)
					checkSample(t, fmt.Sprintf("Share(%d, %d) of %d", num, den, len(p.S)), got, e, sorted[(len(p.S)-1)*num/den])
				}
			}
		}
	}
}

// As great as its numbers may be, of as many samples as may be; just at a step and one short of it.
func TestP16_5ShareOfGreatNumbers(t *testing.T) {
	const most = 1 << 20
	for _, z := range greatSizes() {
		p := counted(z[0], z[1])
		n := len(p.S)
		for _, c := range [][2]int{{0, most}, {1, most}, {15, most}, {16, most}, {17, most}, {most / 2, most}, {most/2 + 17, most}, {most - 16, most}, {most - 1, most}, {most, most}, {most - 1, most - 1}, {1, most - 1}, {65535, 65536}, {1, 65535}, {65534, 65535}, {0, 1}, {1, 1}} {
			got, e := stat.Share(p, c[0], c[1])
			want := uint32(one + 1 + (n-1)*c[0]/c[1])
			checkSample(t, fmt.Sprintf("Share(%d, %d) of %d", c[0], c[1], n), got, e, want)
		}
	}
}

func TestP16_5NoShare(t *testing.T) {
	const most = 1 << 20
	wrong := [][2]int{{0, 0}, {1, 0}, {-1, 1}, {2, 1}, {-1, -1}, {1, -1}, {0, -1}, {-1, -2}, {0, most + 1}, {1, most + 1}, {most + 1, most + 1}, {most + 1, most}, {-1, most}, {4, 3}}
	for _, n := range []int{1 << 31, 1 << 32, 1<<32 + 1, math.MinInt, math.MinInt + 1, math.MaxInt} {
		wrong = append(wrong, [2]int{n, 1}, [2]int{0, n}, [2]int{1, n}, [2]int{n, n}, [2]int{n, most}, [2]int{n, 0})
	}
	for _, p := range []api.Plane{allOf(1, 1, one), counted(3, 2), counted(256, 256)} {
		for _, c := range wrong {
			got, e := stat.Share(p, c[0], c[1])
			checkNoSample(t, fmt.Sprintf("Share(%d, %d)", c[0], c[1]), got, e, api.ErrStatShare)
		}
	}
}
