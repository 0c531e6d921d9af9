package index

import (
	"strconv"
	"testing"

	"tachograph/api"
)

// checkNoneEmpty looks for names without values, and for values without keys: of these nothing may stay, and no call tells of it.
func checkNoneEmpty(t *testing.T, what string, x *Index) {
	t.Helper()
	for name, v := range x.names {
		if len(v) == 0 {
			t.Errorf("%s: the name %q stays without values", what, name)
		}
		for value, k := range v {
			if len(k) == 0 {
				t.Errorf("%s: the label %q=%q stays without keys", what, name, value)
			}
		}
	}
}

func TestWhatIsEmptyIsTakenOut(t *testing.T) {
	x := New()
	for i := range 200 {
		key, n := strconv.Itoa(i%7), strconv.Itoa(i*5%11)
		switch i % 4 {
		case 0:
			x.Set(key, []api.Label{{Name: "x", Value: n}, {Name: n, Value: "1"}})
		case 1:
			x.Set(key, []api.Label{{Name: n, Value: "1"}})
		case 2:
			x.Drop(key)
		case 3:
			x.Set(key, []api.Label{{Name: n, Value: ""}})
			x.Find("never", n)
			x.With("never" + n)
		}
		checkNoneEmpty(t, "step "+strconv.Itoa(i), x)
		checkNoneEmpty(t, "a copy", x.Copy())
	}
	for _, key := range x.Keys() {
		x.Drop(key)
	}
	if len(x.labels) != 0 || len(x.names) != 0 {
		t.Errorf("without keys: %d and %d stay", len(x.labels), len(x.names))
	}
}
