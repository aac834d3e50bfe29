package policy

import (
	"slices"

	"ostiary/api"
)

// Chain tells the names that are asked for what name is about, the nearest first. The cases go by how many names are yet to tell: each tells one, and falls through to the next one.
func Chain(name string) []string {
	var out []string
	switch name {
	case "worker-src":
		out = append(out, name)
		name = "child-src"
		fallthrough
	case "script-src-elem", "style-src-elem", "frame-src":
		out = append(out, name)
		name = wider(name)
		fallthrough
	case "connect-src", "font-src", "img-src", "media-src", "script-src", "style-src", "child-src", "object-src":
		out = append(out, name)
		fallthrough
	case "default-src":
		out = append(out, "default-src")
	}
	return out
}

// wider tells the name behind one that has two behind it. child-src has two for a worker alone, which is a script as well.
func wider(name string) string {
	switch name {
	case "script-src-elem", "child-src":
		return "script-src"
	case "style-src-elem":
		return "style-src"
	}
	return "child-src"
}

// For tells the name that is about what goes to dest.
func For(dest int) string {
	switch dest {
	case api.Plain:
		return "connect-src"
	case api.Script:
		return "script-src-elem"
	case api.Style:
		return "style-src-elem"
	case api.Image:
		return "img-src"
	case api.Font:
		return "font-src"
	case api.Frame:
		return "frame-src"
	}
	return ""
}

// Values tells what p permits for name, and under which name it does so; false, if p says nothing about it.
func Values(p Policy, name string) ([]string, string, bool) {
	for _, asked := range Chain(name) {
		if i := place(p, asked); i >= 0 {
			return slices.Clone(p.Rules[i].Values), asked, true
		}
	}
	return nil, "", false
}

// place tells where the first rule of that name stands in p; -1, if there is none.
func place(p Policy, name string) int {
	return slices.IndexFunc(p.Rules, func(r Rule) bool { return r.Name == name })
}
