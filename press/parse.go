package press

import (
	"press/api"
	"press/parts"
	"press/syntax"
)

func isBudget(n, most int) bool {
	return 0 <= n && n <= most
}

// parse ends what runs out deep inside: its panic is an answer here, every
// other one is a fault of the program and goes on.
func parse(g *syntax.Grammar, bytes string, fuel, nodes int) (tree string, e api.Errno, place int) {
	defer func() {
		reason := recover()
		if reason == nil {
			return
		}
		out, ok := reason.(parts.RunOut)
		if !ok {
			panic(reason)
		}
		tree, e, place = "", out.Errno, 0
	}()
	v, e, place := parts.Parse(g, bytes, fuel, nodes)
	if e != api.OK {
		return "", e, place
	}
	return v.Text(), api.OK, 0
}
