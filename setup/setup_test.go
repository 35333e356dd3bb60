package setup

import (
	"math"
	"testing"

	"gristmill/api"
)

// least is the setup with all numbers as low as may be, greatest the one with all as high.
func least() api.Setup {
	return api.Setup{Streams: 1, Stores: 1, Leaders: 1, Chunk: 1, Replicas: 1, Batch: 1, Retry: 1, Retention: 1}
}

func greatest() api.Setup {
	return api.Setup{
		Schema: api.Schema{Dims: 8, Meas: 8}, Streams: 8, Stores: 16, Leaders: 16, Chunk: 1 << 40,
		Replicas: 1000, Batch: 1000, Retry: 1000, Retention: 1000,
	}
}

// numbers are a setup's, but for its Chunk.
func numbers(s *api.Setup) map[string]*int {
	return map[string]*int{
		"Dims": &s.Schema.Dims, "Meas": &s.Schema.Meas, "Streams": &s.Streams, "Stores": &s.Stores, "Leaders": &s.Leaders,
		"Replicas": &s.Replicas, "Batch": &s.Batch, "Retry": &s.Retry, "Retention": &s.Retention,
	}
}

// TestEnds: chapter 19's words, a setup with each number at either end of what may be.
func TestEnds(t *testing.T) {
	if !MayBe(least()) || !MayBe(greatest()) {
		t.Fatal("refused")
	}
	for name := range numbers(&api.Setup{}) {
		low, high := least(), greatest()
		*numbers(&low)[name] = *numbers(&high)[name]
		if !MayBe(low) {
			t.Error("refused the greatest", name)
		}
		low = least()
		*numbers(&high)[name] = *numbers(&low)[name]
		if !MayBe(high) {
			t.Error("refused the least", name)
		}
	}
}

// TestBeyond: chapter 19's words, one number beyond what may be, by one and by as much as there is.
func TestBeyond(t *testing.T) {
	for _, start := range []func() api.Setup{least, greatest} {
		for name := range numbers(&api.Setup{}) {
			low, high := least(), greatest()
			for _, wrong := range []int{*numbers(&low)[name] - 1, *numbers(&high)[name] + 1, math.MinInt, math.MaxInt} {
				s := start()
				*numbers(&s)[name] = wrong
				if MayBe(s) {
					t.Error("taken", name, wrong)
				}
			}
		}
		for _, wrong := range []int64{0, -1, 1<<40 + 1, math.MinInt64, math.MaxInt64} {
			s := start()
			s.Chunk = wrong
			if MayBe(s) {
				t.Error("taken a chunk of", wrong)
			}
		}
	}
	if MayBe(api.Setup{}) {
		t.Error("taken without anything")
	}
}
