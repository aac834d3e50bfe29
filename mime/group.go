package mime

import (
	"strings"

	"ostiary/api"
	"ostiary/headers"
	"ostiary/infra"
)

// Groups of kinds, as Group numbers them.
const (
	other = iota
	javaScript
	json
	xml
	image
	css
	media
)

// Group tells which group the kind is of. A picture that is written in XML is XML, so that the order of the cases counts.
func Group(t Type) int {
	switch {
	case isScript(t):
		return javaScript
	case writtenIn(t, "json"):
		return json
	case writtenIn(t, "xml"):
		return xml
	case t.Major == "image":
		return image
	case t.Major == "text" && t.Minor == "css":
		return css
	case t.Major == "audio", t.Major == "video":
		return media
	}
	return other
}

func isScript(t Type) bool {
	switch t.Minor {
	case "javascript", "ecmascript", "x-javascript", "x-ecmascript":
		return isCode(t)
	case "jscript":
		return t.Major == "text"
	}
	return false
}

// writtenIn says whether the kind is that format, or one that is written in it.
func writtenIn(t Type, format string) bool {
	return t.Minor == format && isCode(t) || strings.HasSuffix(t.Minor, "+"+format)
}

// isCode says whether the kind's Major is one of the two that formats for programs go under.
func isCode(t Type) bool { return t.Major == "application" || t.Major == "text" }

// Blocked says whether a reply with these headers may not be used as dest: its server asks that nobody guess its kind, and the kind that it tells is not dest's. (A kind that is not told is of no group.)
func Blocked(l []api.Header, dest int) bool {
	options, ok := headers.Split(l, "x-content-type-options")
	if !ok || infra.Lower(options[0]) != "nosniff" {
		return false
	}
	t, _ := Extract(l)
	switch dest {
	case api.Script:
		return Group(t) != javaScript
	case api.Style:
		return Group(t) != css
	}
	return false
}
