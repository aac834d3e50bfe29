package url

import (
	"strconv"
	"strings"

	"ostiary/api"
)

// Text tells the one text of u.
func Text(u api.URL) string {
	if u.HasFragment {
		return Bare(u) + "#" + u.Fragment
	}
	return Bare(u)
}

// Bare tells what of u a server is told.
func Bare(u api.URL) string {
	out := u.Scheme + ":" + authorityText(u) + pathText(u)
	if u.HasQuery {
		out += "?" + u.Query
	}
	return out
}

func authorityText(u api.URL) string {
	if !u.HasHost {
		return ""
	}
	out := "//" + u.User
	if u.Pass != "" {
		out += ":" + u.Pass
	}
	if u.User != "" || u.Pass != "" {
		out += "@"
	}
	out += u.Host
	if u.Port != -1 {
		out += ":" + strconv.Itoa(u.Port)
	}
	return out
}

// pathText puts `/.` ahead where two `/` at the beginning would be read as those of an authority.
func pathText(u api.URL) string {
	if u.Opaque {
		return strings.Join(u.Path, "")
	}
	var out strings.Builder
	if !u.HasHost && len(u.Path) > 1 && u.Path[0] == "" {
		out.WriteString("/.")
	}
	for _, part := range u.Path {
		out.WriteString("/" + part)
	}
	return out.String()
}
