// Package values has the values of which a tree is made; it writes and reads a tree's text.
package values

// Kind says which of the document's values a value is.
type Kind int

const (
	Number Kind = iota
	Nothing
	Run
	Struct
	List
	Choice
)

// Value is one value of a tree. A field that its kind does not have is nothing.
type Value struct {
	Kind   Kind
	Number uint32   // the number; of a choice, which of the two
	Run    string   // the bytes of a run
	Values []*Value // the values that it holds
}
