package samples_test

import (
	"fmt"
	"math/rand/v2"
	"testing"

	"obelus/api"
	"obelus/blockmatch"
	"obelus/document"
	"obelus/samples"
)

func TestVersions(t *testing.T) {
	kinds, alike, same, clones := make(map[int]int), 0, 0, 0
	for seed := range uint64(1000) {
		a, b := samples.Versions(rand.New(rand.NewPCG(seed, 13)).IntN)
		x, y := samples.Versions(rand.New(rand.NewPCG(seed, 13)).IntN)
		if fmt.Sprintf("%+v %+v", a, b) != fmt.Sprintf("%+v %+v", x, y) {
			t.Fatalf("the same choices make %+v and %+v, and %+v and %+v", a, b, x, y)
		}
		if !samples.Apart(a, b) {
			t.Fatalf("%+v and %+v share memory", a, b)
		}
		if document.Check(a) != api.OK || document.Check(b) != api.OK || !document.Plain(a) || !document.Plain(b) {
			t.Fatalf("%+v and %+v: the errors are %d and %d", a, b, document.Check(a), document.Check(b))
		}
		if !document.Equal(api.Document{Settings: a.Settings}, api.Document{Settings: b.Settings}) {
			t.Fatalf("%+v and %+v have different settings", a, b)
		}
		if matches, _ := blockmatch.Blocks(a.Flow, b.Flow); len(matches) > 1 {
			alike++
		}
		if document.Same(a, b) {
			same++
		}
		if document.Equal(a, b) {
			clones++
		}
		kindsIn(a.Flow, kinds)
	}
	for kind := 1; kind <= 10; kind++ {
		if kinds[kind] < 200 {
			t.Errorf("there are %d elements of the kind %d", kinds[kind], kind)
		}
	}
	if alike < 500 || same < 50 || same > 500 || clones > 100 {
		t.Errorf("%d documents are alike, %d are the same, %d equal", alike, same, clones)
	}
}
