package coder

// writer lays numbers as bits.
type writer struct {
	state
	bytes []byte
	free  int // how many bits of the last byte nothing is laid in
}

// number lays one, and learns it.
func (w *writer) number(z uint32) {
	k := w.low()
	if q := z >> k; q < mostOnes {
		w.bits(1<<(q+1)-2, int(q)+1) // q bits 1, a bit 0
		w.bits(z, k)
	} else {
		w.bits(1<<mostOnes-1, mostOnes)
		w.bits(z, allBits)
	}
	w.learn(z)
}

// bits lays the n lowest ones of v, the highest first, byte by byte.
func (w *writer) bits(v uint32, n int) {
	for n > 0 {
		if w.free == 0 {
			w.bytes = append(w.bytes, 0)
			w.free = 8
		}
		m := min(n, w.free)
		n -= m
		w.free -= m
		w.bytes[len(w.bytes)-1] |= byte(v>>n&(1<<m-1)) << w.free
	}
}

// cost tells how many bits it has laid.
func (w *writer) cost() int { return 8*len(w.bytes) - w.free }
