package print

import (
	"columbary/api"
)

func document(d api.Doc) part {
	var l []part
	for _, o := range d.Ops {
		l = append(l, operation(o))
	}
	for _, f := range d.Frags {
		l = append(l, fragment(f))
	}
	return joined("", l, " ", "", itself)
}

func itself(p part) part {
	return p
}

func operation(o api.Operation) part {
	head := "query"
	if o.Mutation {
		head = "mutation"
	}
	if o.Name != "" {
		head += " " + o.Name
	}
	return several(text(head), joinedIfAny("(", o.Vars, ", ", ")", variable), joined(" { ", o.Sub, " ", " }", selection))
}

func variable(v api.VarDef) part {
	return several(text("$"+v.Name+": "), typ(v.T), assigned(v.Has, v.V))
}

func fragment(f api.Fragment) part {
	return several(text("fragment "+f.Name+" on "+f.On), joined(" { ", f.Sub, " ", " }", selection))
}

func selection(x api.Selection) part {
	return several(head(x), joined("", x.Dirs, "", "", directive), joinedIfAny(" { ", x.Sub, " ", " }", selection))
}

// head is what comes before the directives.
func head(x api.Selection) part {
	switch {
	case x.Kind == api.SSpread:
		return text("..." + x.Name)
	case x.Kind == api.SInline && x.On != "":
		return text("... on " + x.On)
	case x.Kind == api.SInline:
		return text("...")
	case x.Kind == api.SField && x.Alias != "":
		return several(text(x.Alias+": "+x.Name), arguments(x.Args))
	case x.Kind == api.SField:
		return several(text(x.Name), arguments(x.Args))
	}
	return text("")
}

func directive(x api.Directive) part {
	return several(text(" @"+x.Name), arguments(x.Args))
}

func arguments(l []api.Arg) part {
	return joinedIfAny("(", l, ", ", ")", argument)
}
