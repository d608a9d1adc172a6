package print

import (
	"columbary/api"
)

func definitions(l []api.TypeDef) part {
	return joined("", l, " ", "", definition)
}

func definition(t api.TypeDef) part {
	switch t.Kind {
	case api.TObject:
		return several(text("type "+t.Name), joinedIfAny(" implements ", t.Names, " & ", "", text), fields(t))
	case api.TInterface:
		return several(text("interface "+t.Name), fields(t))
	case api.TUnion:
		return joined("union "+t.Name+" = ", t.Names, " | ", "", text)
	case api.TEnum:
		return joined("enum "+t.Name+" { ", t.Names, " ", " }", text)
	case api.TInput:
		return several(text("input "+t.Name), fields(t))
	}
	return text("")
}

func fields(t api.TypeDef) part {
	return joined(" { ", t.Fields, " ", " }", field)
}

func field(f api.FieldDef) part {
	return several(text(f.Name), joinedIfAny("(", f.Args, ", ", ")", field), text(": "), typ(f.T), assigned(f.Has, f.V))
}
