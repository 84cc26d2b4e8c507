package blur_test

import (
	"math/big"
	"slices"
	"testing"

	"halide/api"
	"halide/blur"
)

func TestP11_1Binomial(t *testing.T) {
	for radius := range api.MaxRadius + 1 {
		var want []int
		for i := range 2*radius + 1 {
			want = append(want, int(new(big.Int).Binomial(int64(2*radius), int64(i)).Int64()))
		}
		checkWeights(t, api.Binomial, radius, want)
	}
	checkWeights(t, api.Binomial, 0, []int{1})
	checkWeights(t, api.Binomial, 1, []int{1, 2, 1})
	checkWeights(t, api.Binomial, 7, []int{1, 14, 91, 364, 1001, 2002, 3003, 3432, 3003, 2002, 1001, 364, 91, 14, 1})
}

func TestP11_1Flat(t *testing.T) {
	for radius := range api.MaxRadius + 1 {
		checkWeights(t, api.Flat, radius, slices.Repeat([]int{1}, 2*radius+1))
	}
}

func TestP11_1Sum(t *testing.T) {
	for radius := range api.MaxRadius + 1 {
		for _, kind := range kinds() {
			sum := 0
			for _, n := range must(blur.Weights(kind, radius)) {
				sum += n
			}
			if sum != weightsSumTold(kind, radius) {
				t.Errorf("Weights(%d, %d) sum to %d", kind, radius, sum)
			}
		}
	}
}

func checkNoWeights(t *testing.T, kind, radius int) {
	t.Helper()
	if l, e := blur.Weights(kind, radius); len(l) != 0 || e != api.ErrBlurKernel {
		t.Errorf("Weights(%d, %d): %v, %d", kind, radius, l, e)
	}
}

func TestP11_1NoKernel(t *testing.T) {
	for _, radius := range wrongRadii() {
		for _, kind := range append(kinds(), wrongKinds()...) {
			checkNoWeights(t, kind, radius)
		}
	}
	for _, kind := range wrongKinds() {
		for radius := range api.MaxRadius + 1 {
			checkNoWeights(t, kind, radius)
		}
	}
}

func TestP11_1Memory(t *testing.T) {
	for _, kind := range kinds() {
		for radius := range api.MaxRadius + 1 {
			first := must(blur.Weights(kind, radius))
			second := must(blur.Weights(kind, radius))
			for i := range first[:cap(first)] {
				first[:cap(first)][i] = -5
			}
			third := must(blur.Weights(kind, radius))
			if want := weightsTold(kind, radius); !slices.Equal(second, want) || !slices.Equal(third, want) {
				t.Fatalf("Weights(%d, %d): %v and %v behind what was done with another answer", kind, radius, second, third)
			}
		}
	}
}
