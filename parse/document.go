package parse

import (
	"columbary/api"
	"columbary/cursor"
)

func (p *parser) document() api.Doc {
	var d api.Doc
	for {
		p.definition(&d)
		if p.Ended() {
			return d
		}
	}
}

func (p *parser) definition(d *api.Doc) {
	switch {
	case p.SkipName("fragment"):
		d.Frags = append(d.Frags, p.fragment())
	case p.SkipName("query"):
		d.Ops = append(d.Ops, p.operation(false))
	case p.SkipName("mutation"):
		d.Ops = append(d.Ops, p.operation(true))
	default:
		d.Ops = append(d.Ops, api.Operation{Sub: p.set()})
	}
}

func (p *parser) fragment() api.Fragment {
	f := api.Fragment{Name: p.Name("on")}
	if !p.SkipName("on") {
		p.Fail(api.ErrText)
	}
	f.On = p.Name()
	f.Sub = p.set()
	return f
}

func (p *parser) operation(mutation bool) api.Operation {
	o := api.Operation{Mutation: mutation}
	if p.SeesName() {
		o.Name = p.Name()
	}
	o.Vars = cursor.Maybe(p.Cursor, "(", ")", p.variable)
	o.Sub = p.set()
	return o
}

func (p *parser) variable() api.VarDef {
	var v api.VarDef
	p.Sign("$")
	v.Name = p.Name()
	p.Sign(":")
	v.T = p.typ()
	v.Has = p.SkipSign("=")
	if v.Has {
		v.V = p.value(true)
	}
	return v
}

func (p *parser) set() []api.Selection {
	return nested(p, func() []api.Selection {
		return cursor.Some(p.Cursor, "{", "}", p.selection)
	})
}

func (p *parser) selection() api.Selection {
	switch {
	case !p.SkipSign("..."):
		return p.field()
	case p.SkipName("on"):
		return p.inline(p.Name())
	case p.SeesName():
		return api.Selection{Kind: api.SSpread, Name: p.Name(), Dirs: p.directives()}
	}
	return p.inline("")
}

func (p *parser) inline(on string) api.Selection {
	return api.Selection{Kind: api.SInline, On: on, Dirs: p.directives(), Sub: p.set()}
}

func (p *parser) field() api.Selection {
	x := api.Selection{Kind: api.SField, Name: p.Name()}
	if p.SkipSign(":") {
		x.Alias = x.Name
		x.Name = p.Name()
	}
	x.Args = p.arguments()
	x.Dirs = p.directives()
	if p.SeesSign("{") {
		x.Sub = p.set()
	}
	return x
}

func (p *parser) directives() []api.Directive {
	var l []api.Directive
	for p.SkipSign("@") {
		l = append(l, api.Directive{Name: p.Name(), Args: p.arguments()})
	}
	return l
}

func (p *parser) arguments() []api.Arg {
	return cursor.Maybe(p.Cursor, "(", ")", p.argument(false))
}
