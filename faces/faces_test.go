package faces

import (
	"math"
	"reflect"
	"strings"
	"testing"

	"phalanx/api"
	"phalanx/client"
	"phalanx/node"
	"phalanx/world"
)

// kinds is how many samples there are of each type of argument.
const kinds = 6

// TestForms: each call has just the form that its chapter lists.
func TestForms(t *testing.T) {
	for _, c := range calls() {
		if form := reflect.TypeOf(c.call).String(); form != c.form {
			t.Errorf("%s: %s, the chapter lists %s", c.name, form, c.form)
		}
	}
}

// TestCallsEnd: P1. Each call ends and doesn't panic, at every row of samples
// as arguments. (One that doesn't end is stopped by go test itself.)
func TestCallsEnd(t *testing.T) {
	for _, c := range calls() {
		form := reflect.TypeOf(c.call)
		rows := 1
		for range form.NumIn() {
			rows *= kinds
		}
		for row := range rows {
			if bad := panics(c.call, arguments(form, row)); bad != nil {
				t.Errorf("%s panics at row %d: %v", c.name, row, bad)
				break
			}
		}
	}
}

// arguments makes the arguments of a row: its digits, of base kinds, choose one
// sample each.
func arguments(form reflect.Type, row int) []reflect.Value {
	l := make([]reflect.Value, form.NumIn())
	for i := range l {
		l[i] = sample(form.In(i), row%kinds)
		row /= kinds
	}
	return l
}

// panics calls it, and gives what it panicked with.
func panics(call any, args []reflect.Value) (bad any) {
	defer func() { bad = recover() }()
	reflect.ValueOf(call).Call(args)
	return nil
}

// sample makes one of the samples of a type: with k 0 the zero value.
func sample(t reflect.Type, k int) reflect.Value {
	v := reflect.New(t).Elem()
	if k == 0 {
		return v
	}
	switch t.Kind() {
	case reflect.Bool:
		v.SetBool(k%2 == 1)
	case reflect.Int:
		v.SetInt([kinds]int64{0, 1, -1, 3, math.MaxInt, math.MinInt}[k])
	case reflect.Uint8:
		v.SetUint([kinds]uint64{0, 1, 2, 127, 128, 255}[k])
	case reflect.Uint32:
		v.SetUint([kinds]uint64{0, 1, 2, 0xedb88320, 1 << 31, math.MaxUint32}[k])
	case reflect.Uint64:
		v.SetUint([kinds]uint64{0, 1, math.Float64bits(1.5), math.Float64bits(math.Inf(-1)), 1 << 63, math.MaxUint64}[k])
	case reflect.String:
		v.SetString([kinds]string{"", "1", "\xff\x00\x80\n", "x6d", strings.Repeat("é", 40), strings.Repeat("\x00", 17000)}[k])
	case reflect.Slice:
		v.Set(reflect.MakeSlice(t, k, k+1))
		fill(v, k)
	case reflect.Array:
		fill(v, k)
	case reflect.Struct:
		for i := range v.NumField() {
			v.Field(i).Set(sample(t.Field(i).Type, (k+i)%kinds))
		}
	case reflect.Pointer:
		v.Set(object(t, k))
	}
	return v
}

// fill sets a list's elements to samples that differ.
func fill(v reflect.Value, k int) {
	for i := range v.Len() {
		v.Index(i).Set(sample(v.Type().Elem(), (k+i)%kinds))
	}
}

// object makes a node, a client or a world (nil, where New answers nil).
func object(t reflect.Type, k int) reflect.Value {
	s := api.Setting{Nodes: 2, Clients: 1, Suspect: 3, Retry: 2, Timeout: 4, Life: 50, Window: 4, Room: 8}
	var x any
	switch t {
	case reflect.TypeFor[*node.Node]():
		x, _ = node.New(s, api.Id{Slot: k % 2, Inc: 1}, k < 3)
	case reflect.TypeFor[*client.Client]():
		x, _ = client.New(s, 0)
	case reflect.TypeFor[*world.World]():
		x, _ = world.New(s)
	}
	return reflect.ValueOf(x)
}
