package source

import (
	"slices"
	"strings"

	"ostiary/api"
	"ostiary/infra"
	"ostiary/origin"
	"ostiary/url"
)

// reader says whether what is left of a source means the address that it was made for. It reads a part of it, and leaves what is behind that to the next one.
type reader func(rest string) bool

// meaning chains the readers of a whole source.
func meaning(u, page api.URL, hops int) reader {
	return readWord(u, page, readScheme(u, page, readHost(u, readPort(u, readPath(u, hops)))))
}

// readWord knows the sources that are one word.
func readWord(u, page api.URL, next reader) reader {
	return func(s string) bool {
		switch {
		case s == "*":
			return fetched(u.Scheme) || u.Scheme == page.Scheme
		case infra.Lower(s) == "'self'":
			return self(u, page)
		}
		return !strings.HasPrefix(s, "'") && next(s)
	}
}

// fetched says whether addresses of a scheme are asked for over the net, and are so meant by `*` on any page.
func fetched(scheme string) bool {
	switch scheme {
	case "http", "https", "ws", "wss":
		return true
	}
	return false
}

// self says whether u is where page is, or the same place reached in a safer way.
func self(u, page api.URL) bool {
	if origin.Same(origin.Of(u), origin.Of(page)) {
		return true
	}
	return u.Host == page.Host && Scheme(page.Scheme, u.Scheme) && u.Port == -1 && page.Port == -1
}

// readScheme ends the chain where a scheme is all there is. A source without one goes by the page's.
func readScheme(u, page api.URL, next reader) reader {
	return func(s string) bool {
		scheme, behind, ok := cutScheme(s)
		if ok && behind == "" {
			return Scheme(scheme, u.Scheme)
		}
		if rest, slashes := strings.CutPrefix(behind, "//"); ok && slashes {
			return Scheme(scheme, u.Scheme) && next(rest)
		}
		return Scheme(page.Scheme, u.Scheme) && next(s)
	}
}

// cutScheme tells the scheme by Lower, and what stands behind its `:`; false, if s begins with none.
func cutScheme(s string) (string, string, bool) {
	name, behind, ok := strings.Cut(s, ":")
	if !ok || name == "" || !letter(name[0]) {
		return "", "", false
	}
	for i := range len(name) {
		if !schemeByte(name[i]) {
			return "", "", false
		}
	}
	return infra.Lower(name), behind, true
}

func schemeByte(c byte) bool {
	switch c {
	case '+', '-', '.':
		return true
	}
	return letter(c) || '0' <= c && c <= '9'
}

func letter(c byte) bool { return 'A' <= c && c <= 'Z' || 'a' <= c && c <= 'z' }

func readHost(u api.URL, next reader) reader {
	return func(s string) bool {
		name, rest := cutAhead(s, ":/")
		return hostMeans(infra.Lower(name), u.Host) && next(rest)
	}
}

// hostMeans asks for a host ahead of all else: not even `*` means an address that has none.
func hostMeans(name, host string) bool {
	if host == "" || name == "*" {
		return host != ""
	}
	if strings.HasPrefix(name, "*.") && name != "*." {
		end := name[1:]
		return strings.HasSuffix(host, end) && len(host) > len(end)
	}
	return name == host
}

// readPort is left with nothing, or with what begins with `:` or `/`.
func readPort(u api.URL, next reader) reader {
	return func(s string) bool {
		text, rest := cutAhead(s, "/")
		return portMeans(text, u) && next(rest)
	}
}

// portMeans takes the `:` along: it tells a port that is empty, and means nothing, from none.
func portMeans(text string, u api.URL) bool {
	switch text {
	case "":
		return u.Port == -1
	case ":*":
		return true
	}
	n, ok := infra.Int(text[1:])
	has := u.Port
	if has == -1 {
		has = url.Own(u.Scheme)
	}
	safer := has == 443 && (u.Scheme == "https" || u.Scheme == "wss")
	return ok && (n == int64(has) || n == 80 && safer)
}

// readPath makes the parts of u ready once, for all sources of a list. Behind a redirect paths do not count, since a page could find out by them where another server led it.
func readPath(u api.URL, hops int) reader {
	has := unpercented(u.Path)
	return func(s string) bool {
		switch {
		case hops != 0, s == "", s == "/":
			return true
		case u.Opaque:
			return false
		}
		parts := unpercented(strings.Split(s[1:], "/"))
		if !strings.HasSuffix(s, "/") {
			return slices.Equal(parts, has)
		}
		ahead := parts[:len(parts)-1]
		return len(has) > len(ahead) && slices.Equal(ahead, has[:len(ahead)])
	}
}

// unpercented is asked of parts alone, behind the cut: a `/` that is escaped parts nothing.
func unpercented(parts []string) []string {
	out := make([]string, len(parts))
	for i, part := range parts {
		out[i] = infra.Unpercent(part)
	}
	return out
}

// cutAhead cuts s ahead of the first byte that is one of ends; without one all of s stands ahead.
func cutAhead(s, ends string) (string, string) {
	i := strings.IndexAny(s, ends)
	if i < 0 {
		i = len(s)
	}
	return s[:i], s[i:]
}
