package coder

const (
	mostOnes  = 24 // behind so many bits 1 a number stands by all of its bits
	mostLow   = 31
	allBits   = 32
	fullCount = 64
)

// state: what the numbers so far say of the next one. Who lays bits and who takes them learn the same, so nothing of it need be written.
type state struct {
	sum, count uint64 // wide enough for 64 numbers, and for a count times 2^31
}

func firstState() state { return state{sum: 16, count: 1} }

// low tells how many of the next number's lowest bits are written as they are.
func (s *state) low() int {
	k := 0
	for k < mostLow && s.count<<k < s.sum {
		k++
	}
	return k
}

// learn takes a number in. Halving keeps the newer ones the weightier.
func (s *state) learn(z uint32) {
	s.sum += uint64(z)
	s.count++
	if s.count == fullCount {
		s.sum /= 2
		s.count = fullCount / 2
	}
}
