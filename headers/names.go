package headers

import (
	"strings"

	"ostiary/infra"
)

// The most bytes that a value has which another server gets unasked.
const maxSafe = 128

// Forbidden says whether a page may not set a header of that name, because what it tells is not the page's to tell.
func Forbidden(name string) bool {
	name = infra.Lower(name)
	switch name {
	case "host", "cookie", "origin", "referer", "content-length", "connection", "date", "via", "te", "upgrade", "expect", "dnt",
		"accept-charset", "accept-encoding", "access-control-request-headers", "access-control-request-method",
		"keep-alive", "trailer", "transfer-encoding":
		return true
	}
	return strings.HasPrefix(name, "proxy-") || strings.HasPrefix(name, "sec-")
}

// Safe says whether another server may get that header without being asked ahead: it tells no more than a form or an image could.
func Safe(name, value string) bool {
	if len(value) > maxSafe {
		return false
	}
	switch infra.Lower(name) {
	case "accept":
		return harmless(value)
	case "accept-language", "content-language":
		return languages(value)
	case "content-type":
		return harmless(value) && formKind(value)
	case "range":
		from, _, ok := Range(value)
		return ok && from >= 0
	}
	return false
}

func harmless(value string) bool {
	for i := range len(value) {
		if risky(value[i]) {
			return false
		}
	}
	return true
}

// risky says whether a careless server may take c for more than a part of a value.
func risky(c byte) bool {
	switch c {
	case '"', '(', ')', ':', '<', '>', '?', '@', '[', '\\', ']', '{', '}', 127:
		return true
	}
	return c < 32 && c != '\t'
}

func languages(value string) bool {
	for i := range len(value) {
		if !languageByte(value[i]) {
			return false
		}
	}
	return true
}

func languageByte(c byte) bool {
	switch c {
	case ' ', '*', ',', '-', '.', ';', '=':
		return true
	}
	return 'A' <= c && c <= 'Z' || 'a' <= c && c <= 'z' || '0' <= c && c <= '9'
}

// formKind says whether value is a kind of content that a form could send.
func formKind(value string) bool {
	essence, _, _ := strings.Cut(value, ";")
	switch infra.Lower(infra.Strip(essence)) {
	case "application/x-www-form-urlencoded", "multipart/form-data", "text/plain":
		return true
	}
	return false
}

// Range tells the first and the last byte that value asks for; -1, where it leaves one out.
func Range(value string) (int64, int64, bool) {
	numbers, unit := strings.CutPrefix(value, "bytes=")
	left, right, dash := strings.Cut(numbers, "-")
	from, one := bound(left)
	to, other := bound(right)
	if !unit || !dash || !one || !other || !spans(from, to) {
		return 0, 0, false
	}
	return from, to, true
}

func bound(digits string) (int64, bool) {
	if digits == "" {
		return -1, true
	}
	return infra.Int(digits)
}

// spans says whether something may lie between two bounds; one that is left out, which is below 0, sets none.
func spans(from, to int64) bool {
	if to < 0 {
		return from >= 0
	}
	return from <= to
}
