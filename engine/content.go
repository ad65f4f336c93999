package engine

import (
	"tabard/api"
	"tabard/entry"
	"tabard/eval"
	"tabard/formula"
	"tabard/locale"
	"tabard/value"
	"tabard/wording"
)

// Kinds of contents.
const (
	Nothing  = 0
	Constant = 1
	Formula  = 2
)

const mostText = api.MaxText - 1 // of a content, so that it can be typed with one byte more

// Content is what a cell has.
type Content struct {
	Kind  int
	Value api.Value
	Expr  api.Expr
}

// tools are what hangs on a locale.
type tools struct {
	entries  *entry.Reader
	formulas *formula.Reader
	english  *formula.Reader
	worker   *eval.Worker
}

func newTools(l locale.Locale) *tools {
	return &tools{entry.New(l), formula.New(l), wording.English(), eval.New(l)}
}

// Read is the content that a text says.
func Read(text string, l locale.Locale) (Content, api.Errno) {
	// Only what this one text asks for is made.
	if isFormula(text) {
		return (&tools{formulas: formula.New(l), english: wording.English()}).read(text)
	}
	return (&tools{entries: entry.New(l)}).read(text)
}

func isFormula(text string) bool { return text != "" && text[0] == '=' }

func (t *tools) read(text string) (Content, api.Errno) {
	switch {
	case len(text) > api.MaxEntry:
		return Content{}, api.ErrLong
	case text == "":
		return Content{}, api.OK
	case isFormula(text):
		return t.readFormula(text[1:])
	case text[0] == '\'':
		return constant(value.Text(text[1:])), api.OK
	}
	switch e, err := t.entries.Enter(text); err {
	case api.OK:
		return constant(value.Number(e.Bits)), api.OK
	case api.ErrOver:
		return Content{}, api.ErrOver
	}
	var ops value.Ops // what is a bool hangs on no locale
	if is, fail := ops.ToBool(value.Text(text)); fail == 0 {
		return constant(value.Bool(is)), api.OK
	}
	if n := wording.Fail(text); n > 0 {
		return constant(value.Fail(n)), api.OK
	}
	if len(text) > mostText {
		return Content{}, api.ErrLong
	}
	return constant(value.Text(text)), api.OK
}

func (t *tools) readFormula(text string) (Content, api.Errno) {
	e, err, _ := t.formulas.Parse(text)
	if err != api.OK {
		return Content{}, err
	}
	c := Content{Kind: Formula, Expr: e}
	if !right(c, t.english) {
		return Content{}, api.ErrLong
	}
	return c, api.OK
}

func constant(v api.Value) Content {
	return Content{Kind: Constant, Value: v}
}

func Right(c Content) bool {
	if c.Kind != Formula {
		return right(c, nil)
	}
	return right(c, wording.English())
}

// right needs a reader of English for formulas only.
func right(c Content, english *formula.Reader) bool {
	none := api.Value{}
	switch c.Kind {
	case Nothing:
		return c.Value == none && isNone(c.Expr)
	case Constant:
		return value.Right(c.Value) && c.Value.Kind != api.Empty && len(c.Value.Text) <= mostText && isNone(c.Expr)
	case Formula:
		return c.Value == none && formula.Right(c.Expr) && len(english.Print(c.Expr)) <= mostText
	}
	return false
}

func isNone(e api.Expr) bool {
	none := api.Ref{}
	return e.Kind == 0 && e.Bits == 0 && e.Text == "" && !e.Is && e.Fail == 0 && e.A == none && e.B == none && len(e.Kids) == 0
}

// copied is a tree of its own memory.
func copied(e api.Expr) api.Expr {
	kids := e.Kids
	e.Kids = nil
	for _, k := range kids {
		e.Kids = append(e.Kids, copied(k))
	}
	return e
}
