package parts

import (
	"press/syntax"
	"press/values"
)

func writeNumber(w *writing, p *syntax.Part, v *values.Value, hidden *hiddenPlaces) {
	putHighestFirst(w.space(p.Width), v.Number)
}

func writeLowNumber(w *writing, p *syntax.Part, v *values.Value, hidden *hiddenPlaces) {
	putLowestFirst(w.space(p.Width), v.Number)
}

func writeFixed(w *writing, p *syntax.Part, v *values.Value, hidden *hiddenPlaces) {
	w.bytes = append(w.bytes, p.Value)
}

func writeStruct(w *writing, p *syntax.Part, v *values.Value, hidden *hiddenPlaces) {
	own := &hiddenPlaces{}
	inner := v.Values
	for _, part := range p.Parts {
		if part.Silent {
			w.write(part, nil, own)
			continue
		}
		w.write(part, inner[0], own)
		inner = inner[1:]
	}
}

func writeChoice(w *writing, p *syntax.Part, v *values.Value, hidden *hiddenPlaces) {
	w.write(p.Parts[v.Number], v.Values[0], nil)
}

func writeMany(w *writing, p *syntax.Part, v *values.Value, hidden *hiddenPlaces) {
	for _, inner := range v.Values {
		w.write(p.Parts[0], inner, nil)
	}
}

func writeRule(w *writing, p *syntax.Part, v *values.Value, hidden *hiddenPlaces) {
	w.write(w.grammar.PartOf(p.Rule), v, nil)
}

func writeHidden(w *writing, p *syntax.Part, v *values.Value, hidden *hiddenPlaces) {
	writeHiddenOrdered(w, p, hidden, putHighestFirst)
}

func writeLowHidden(w *writing, p *syntax.Part, v *values.Value, hidden *hiddenPlaces) {
	writeHiddenOrdered(w, p, hidden, putLowestFirst)
}

func writeHiddenOrdered(w *writing, p *syntax.Part, hidden *hiddenPlaces, put func([]byte, uint32)) {
	hidden[p.Dependency] = hiddenPlace{len(w.bytes), p.Width, put}
	w.space(p.Width)
}

func writeRun(w *writing, p *syntax.Part, v *values.Value, hidden *hiddenPlaces) {
	w.tell(hidden[p.Dependency], len(v.Run))
	w.bytes = append(w.bytes, v.Run...)
}

func writeRest(w *writing, p *syntax.Part, v *values.Value, hidden *hiddenPlaces) {
	w.bytes = append(w.bytes, v.Run...)
}

func writeTimes(w *writing, p *syntax.Part, v *values.Value, hidden *hiddenPlaces) {
	w.tell(hidden[p.Dependency], len(v.Values))
	writeMany(w, p, v, hidden)
}

func writeWindow(w *writing, p *syntax.Part, v *values.Value, hidden *hiddenPlaces) {
	from := len(w.bytes)
	w.write(p.Parts[0], v, hidden)
	w.tell(hidden[p.Dependency], len(w.bytes)-from)
}

func writeAt(w *writing, p *syntax.Part, v *values.Value, hidden *hiddenPlaces) {
	w.waiting = append(w.waiting, waiting{p.Parts[0], v, hidden, hidden[p.Dependency]})
}

// writeSummed notes its sum when its part is written, and so behind those that
// stand inside it.
func writeSummed(w *writing, p *syntax.Part, v *values.Value, hidden *hiddenPlaces) {
	from := len(w.bytes)
	w.write(p.Parts[0], v, hidden)
	w.sum(summed{from, len(w.bytes), hidden[p.Dependency]})
}
