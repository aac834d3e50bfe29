package url

import (
	"slices"
	"strings"

	"ostiary/api"
	"ostiary/host"
	"ostiary/infra"
)

const greatestPort = 65535

// readAuthority lays who asks, the host and the port into u, whose scheme is known.
func readAuthority(s string, u *api.URL) api.Errno {
	at := strings.LastIndexByte(s, '@')
	user, pass, _ := strings.Cut(s[:max(at, 0)], ":")
	u.User, u.Pass = infra.Percent(user, infra.Userinfo), infra.Percent(pass, infra.Userinfo)

	s = s[at+1:]
	end := colonOfPort(s)
	digits := strings.TrimPrefix(s[end:], ":")
	port, ok := readPort(digits, Own(u.Scheme))
	if !ok {
		return api.ErrPort
	}
	text, why := host.Parse(s[:end], Special(u.Scheme))
	if why != api.OK {
		return why
	}
	if text == "" && (u.User != "" || u.Pass != "" || digits != "") {
		return api.ErrHost
	}
	u.Host, u.HasHost, u.Port = text, true, port
	return api.OK
}

// colonOfPort tells where the last `:` stands, or the end of s; those within brackets part the pieces of a host. A bracket that is not closed holds all that is left.
func colonOfPort(s string) int {
	i, last := -1, len(s)
outside:
	for i++; i < len(s); i++ {
		switch s[i] {
		case ':':
			last = i
		case '[':
			goto inside
		}
	}
	return last
inside:
	for i++; i < len(s); i++ {
		if s[i] == ']' {
			goto outside
		}
	}
	return last
}

// readPort tells the port that s is: -1, where it goes without saying.
func readPort(s string, own int) (int, bool) {
	if s == "" {
		return -1, true
	}
	n, ok := infra.Int(s)
	switch {
	case !ok || n > greatestPort:
		return 0, false
	case int(n) == own:
		return -1, true
	}
	return int(n), true
}

// readPath tells the parts ahead with those of s behind them. ahead is base's own list: it is copied, not gone on with.
func readPath(s string, ahead []string, special bool) []string {
	if s == "" && !special {
		return nil
	}
	out := slices.Clone(ahead)
	rest, more := strings.TrimPrefix(s, "/"), true
	for more {
		var part string
		part, rest, more = strings.Cut(rest, "/")
		n := dots(part)
		if n == 2 && len(out) > 0 {
			out = out[:len(out)-1]
		}
		switch {
		case n == 0:
			out = append(out, infra.Percent(part, infra.Path))
		case !more:
			out = append(out, "")
		}
	}
	return out
}

// dots tells how many dots a part is that names no place of its own: 1, 2; of others 0.
func dots(part string) int {
	switch infra.Unpercent(part) {
	case ".":
		return 1
	case "..":
		return 2
	}
	return 0
}

func readQuery(s string, special bool) string {
	if special {
		return infra.Percent(s, infra.SpecialQuery)
	}
	return infra.Percent(s, infra.Query)
}
