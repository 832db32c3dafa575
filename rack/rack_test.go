package rack

import (
	"math"
	"reflect"
	"slices"
	"testing"

	"coatcheck/api"
)

// full returns a state in which no field is zero, and whose lists have capacity to spare, so that an append into them would show.
func full() api.Work {
	x := api.Work{
		Line: 1, Op: api.Op{Kind: 2, T: 3, X: 4, Slab: 5, Use: true, By: 6, Nth: 7}, Pinned: true, E: 8,
		B: 9, K: 10, I: 11, C: 12, Borrow: 13, H: 14, N: 15, V: 16, U: 17, G: 18, J: 19, T: 20, Ret: 21, Give: true,
		Rack: spare(30, 31), Hold: spare(32, 33), Read: spare[api.Word](34, 35),
	}
	for i := range x.Bags {
		x.Bags[i] = api.Bag{Tag: api.Word(40 + i), L: spare(50+2*i, 51+2*i)}
	}
	return x
}

func spare[T int | api.Word](l ...T) []T {
	n := make([]T, 8)
	copy(n, l)
	return n[:len(l)]
}

// whole returns the lists of a state with all that their capacity holds.
func whole(x api.Work) [][]int {
	l := [][]int{x.Rack[:cap(x.Rack)], x.Hold[:cap(x.Hold)]}
	for _, b := range x.Bags {
		l = append(l, b.L[:cap(b.L)])
	}
	for _, w := range x.Read[:cap(x.Read)] {
		l = append(l, []int{int(w)})
	}
	return l
}

// scribble overwrites all lists of a state.
func scribble(x api.Work) {
	for _, l := range whole(x)[:5] {
		for i := range l {
			l[i] = -99
		}
	}
	for i := range x.Read[:cap(x.Read)] {
		x.Read[:cap(x.Read)][i] = 999
	}
}

// P4.1: the rack is last in, first out, up to its capacity; this is the example and more.
func TestPutAndTake(t *testing.T) {
	x, ok := Put(api.Config{Rack: 1}, api.Work{}, 3)
	if !ok || !slices.Equal(x.Rack, []int{3}) {
		t.Fatalf("%v, %v", x.Rack, ok)
	}
	y, ok := Put(api.Config{Rack: 1}, x, 4)
	if ok || !Same(x, y) {
		t.Errorf("a full rack took a block: %v", y.Rack)
	}
	x, ok = Put(api.Config{Rack: 2}, x, 4)
	if !ok || !slices.Equal(x.Rack, []int{3, 4}) {
		t.Errorf("%v, %v", x.Rack, ok)
	}
	for _, want := range []int{4, 3, -1, -1} {
		var got int
		if x, got = Take(x); got != want {
			t.Errorf("took %d, want %d", got, want)
		}
	}
	if !Same(x, api.Work{}) {
		t.Errorf("%+v", x)
	}
}

// P4.1: any block and any capacity; a rack that holds more than its capacity is full too.
func TestPutAndTakeOfOddArguments(t *testing.T) {
	for _, capacity := range []int{math.MinInt, -1, 0, 1, 2} {
		x := full()
		if y, ok := Put(api.Config{Rack: capacity}, x, 5); ok || !Same(x, y) {
			t.Errorf("capacity %d: %v, %v", capacity, y.Rack, ok)
		}
	}
	for _, block := range []int{math.MinInt, -1, 0, math.MaxInt} {
		x, ok := Put(api.Config{Rack: math.MaxInt}, full(), block)
		if !ok || !slices.Equal(x.Rack, []int{30, 31, block}) {
			t.Errorf("block %d: %v, %v", block, x.Rack, ok)
		}
		x, got := Take(x)
		if got != block || !Same(x, full()) {
			t.Errorf("took %d, left %+v", got, x)
		}
	}
}

// P4.2: the hold list is first in, first out.
func TestHoldAndNext(t *testing.T) {
	x := Hold(api.Work{}, 4, 5)
	x = Hold(x)
	x = Hold(x, -7)
	if !slices.Equal(x.Hold, []int{4, 5, -7}) {
		t.Errorf("%v", x.Hold)
	}
	for _, want := range []int{4, 5, -7, -1, -1} {
		var got int
		if x, got = Next(x); got != want {
			t.Errorf("got %d, want %d", got, want)
		}
	}
	if !Same(x, api.Work{}) {
		t.Errorf("%+v", x)
	}
}

// P4.1, P4.2: a function changes its own list and no other field.
func TestOtherFieldsStay(t *testing.T) {
	want := full()
	for name, change := range map[string]func(x api.Work) (api.Work, func(*api.Work)){
		"Put": func(x api.Work) (api.Work, func(*api.Work)) {
			y, _ := Put(api.Config{Rack: 4}, x, 1)
			return y, func(w *api.Work) { w.Rack = []int{30, 31, 1} }
		},
		"Take": func(x api.Work) (api.Work, func(*api.Work)) {
			y, _ := Take(x)
			return y, func(w *api.Work) { w.Rack = []int{30} }
		},
		"Hold": func(x api.Work) (api.Work, func(*api.Work)) {
			return Hold(x, 1), func(w *api.Work) { w.Hold = []int{32, 33, 1} }
		},
		"Next": func(x api.Work) (api.Work, func(*api.Work)) {
			y, _ := Next(x)
			return y, func(w *api.Work) { w.Hold = []int{33} }
		},
	} {
		got, expect := change(full())
		w := want
		expect(&w)
		if !reflect.DeepEqual(normal(got), normal(w)) {
			t.Errorf("%s: %+v, want %+v", name, got, w)
		}
	}
}

// normal returns a state whose empty lists are nil.
func normal(x api.Work) api.Work {
	return Copy(x)
}

// P4.3: no function modifies its argument or shares memory with it or with another result.
func TestNoSharedMemory(t *testing.T) {
	for name, do := range map[string]func(x api.Work) api.Work{
		"Put":       func(x api.Work) api.Work { y, _ := Put(api.Config{Rack: 4}, x, 1); return y },
		"Put full":  func(x api.Work) api.Work { y, _ := Put(api.Config{Rack: 0}, x, 1); return y },
		"Take":      func(x api.Work) api.Work { y, _ := Take(x); return y },
		"Hold":      func(x api.Work) api.Work { return Hold(x, 1, 2) },
		"Hold none": func(x api.Work) api.Work { return Hold(x) },
		"Next":      func(x api.Work) api.Work { y, _ := Next(x); return y },
		"Copy":      Copy,
	} {
		x, want := full(), full()
		a, b := do(x), do(x)
		if !reflect.DeepEqual(whole(x), whole(want)) || !Same(x, want) {
			t.Errorf("%s modified its argument", name)
		}
		keep := Copy(b)
		scribble(a)
		if !reflect.DeepEqual(whole(x), whole(want)) || !Same(b, keep) {
			t.Errorf("%s shares memory", name)
		}
	}
}

// P4.2: the blocks that Hold is passed are not kept.
func TestHoldCopiesItsBlocks(t *testing.T) {
	l := []int{1, 2}
	x := Hold(api.Work{}, l...)
	l[0] = 9
	if !slices.Equal(x.Hold, []int{1, 2}) {
		t.Errorf("%v", x.Hold)
	}
}

// P4.3: unchanged states of empty lists.
func TestEmptyLists(t *testing.T) {
	for _, x := range []api.Work{{Line: 3}, {Line: 3, Rack: []int{}, Hold: []int{}}} {
		if y, b := Take(x); b != -1 || !Same(x, y) {
			t.Errorf("Take: %+v, %d", y, b)
		}
		if y, b := Next(x); b != -1 || !Same(x, y) {
			t.Errorf("Next: %+v, %d", y, b)
		}
	}
}

// visit calls change with each value inside v that is not a struct or an array, as something that may be set.
func visit(v reflect.Value, path string, change func(v reflect.Value, path string)) {
	switch v.Kind() {
	case reflect.Struct:
		for i := range v.NumField() {
			visit(v.Field(i), path+"."+v.Type().Field(i).Name, change)
		}
	case reflect.Array:
		for i := range v.Len() {
			visit(v.Index(i), path+"[]", change)
		}
	default:
		change(v, path)
	}
}

// other sets a value to another one.
func other(v reflect.Value) {
	switch v.Kind() {
	case reflect.Int:
		v.SetInt(v.Int() + 1)
	case reflect.Uint64:
		v.SetUint(v.Uint() + 1)
	case reflect.Bool:
		v.SetBool(!v.Bool())
	case reflect.Slice:
		other(v.Index(0))
	}
}

// P4.3: Same sees a difference in each field, and a list that is longer or shorter.
func TestSameSeesEachField(t *testing.T) {
	var paths []string
	x := full()
	visit(reflect.ValueOf(&x).Elem(), "", func(v reflect.Value, path string) { paths = append(paths, path) })
	if len(paths) < 30 {
		t.Fatalf("only %d fields", len(paths))
	}
	for i, path := range paths {
		n := 0
		y := full()
		visit(reflect.ValueOf(&y).Elem(), "", func(v reflect.Value, _ string) {
			if n == i {
				other(v)
			}
			n++
		})
		if Same(x, y) || Same(y, x) {
			t.Errorf("Same does not see %s", path)
		}
		n = 0
		z := full()
		visit(reflect.ValueOf(&z).Elem(), "", func(v reflect.Value, _ string) {
			if n == i && v.Kind() == reflect.Slice {
				v.SetLen(1)
			} else if n == i {
				other(v)
			}
			n++
		})
		if Same(x, z) || Same(z, x) {
			t.Errorf("Same does not see that %s is shorter", path)
		}
	}
}

// P4.3: equal states are the same, and nil lists equal empty ones.
func TestSameOfEqualStates(t *testing.T) {
	if !Same(full(), full()) || !Same(full(), Copy(full())) || !Same(api.Work{}, api.Work{}) {
		t.Error("equal states are not the same")
	}
	empty := api.Work{Rack: []int{}, Hold: []int{}, Read: []api.Word{}}
	for i := range empty.Bags {
		empty.Bags[i].L = []int{}
	}
	if !Same(api.Work{}, empty) || !Same(empty, api.Work{}) || !Same(empty, Copy(empty)) {
		t.Error("nil lists do not equal empty ones")
	}
}
