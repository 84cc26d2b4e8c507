package stat

import (
	"math"

	"halide/bits"
)

// span: the least and the greatest key of some samples.
type span struct{ least, greatest uint32 }

// emptySpan tells that of no samples: its least key is above its greatest one, as in no other span, and put together with another one it leaves that as it is.
func emptySpan() span { return span{least: math.MaxUint32, greatest: 0} }

func spanOf(l []uint32) span {
	told := emptySpan()
	for _, s := range l {
		k := bits.Key(s)
		told = told.with(span{k, k})
	}
	return told
}

// with tells the span of both ones' samples.
func (a span) with(b span) span {
	return span{min(a.least, b.least), max(a.greatest, b.greatest)}
}
