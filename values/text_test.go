package values

import "testing"

func number(n uint32) *Value {
	return &Value{Kind: Number, Number: n}
}

func TestText(t *testing.T) {
	nothing := &Value{Kind: Nothing}
	empty := &Value{Kind: Run}
	for _, c := range []struct {
		value *Value
		want  string
	}{
		{number(0), "0"}, {number(10), "10"}, {number(4294967295), "4294967295"}, {nothing, "-"},
		{empty, `""`}, {&Value{Kind: Run, Run: "\x00\x0f\xf0\xff\x9a"}, `"000ff0ff9a"`},
		{&Value{Kind: Struct}, "()"}, {&Value{Kind: Struct, Values: []*Value{number(1)}}, "(1)"},
		{&Value{Kind: Struct, Values: []*Value{number(1), nothing, empty}}, `(1 - "")`},
		{&Value{Kind: List}, "[]"}, {&Value{Kind: List, Values: []*Value{{Kind: List}, {Kind: Struct}}}, "[[] ()]"},
		{&Value{Kind: Choice, Values: []*Value{number(7)}}, "/0 7"},
		{&Value{Kind: Choice, Number: 1, Values: []*Value{{Kind: Choice, Values: []*Value{nothing}}}}, "/1 /0 -"},
	} {
		if got := c.value.Text(); got != c.want {
			t.Errorf("%q, want %q", got, c.want)
		}
	}
}
