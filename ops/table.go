package ops

// row is one operator: a name that is both prefix and infix has two.
type row struct {
	pri        int
	kind, name string
}

// table is in the chapter's order, by which Names goes.
func table() [30]row {
	return [30]row{
		{1200, "xfx", ":-"},
		{1200, "fx", ":-"},
		{1200, "fx", "?-"},
		{1100, "xfy", ";"},
		{1050, "xfy", "->"},
		{1000, "xfy", ","},
		{900, "fy", `\+`},
		{700, "xfx", "="},
		{700, "xfx", `\=`},
		{700, "xfx", "=="},
		{700, "xfx", `\==`},
		{700, "xfx", "@<"},
		{700, "xfx", "@=<"},
		{700, "xfx", "@>"},
		{700, "xfx", "@>="},
		{700, "xfx", "=.."},
		{700, "xfx", "is"},
		{700, "xfx", "=:="},
		{700, "xfx", `=\=`},
		{700, "xfx", "<"},
		{700, "xfx", "=<"},
		{700, "xfx", ">"},
		{700, "xfx", ">="},
		{500, "yfx", "+"},
		{500, "yfx", "-"},
		{400, "yfx", "*"},
		{400, "yfx", "//"},
		{400, "yfx", "rem"},
		{400, "yfx", "mod"},
		{200, "fy", "-"},
	}
}
