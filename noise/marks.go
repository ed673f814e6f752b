package noise

import (
	"adit/aead"
	"adit/api"
	"adit/blake"
)

const (
	markSize  = 16 // that of a cookie too
	marksSize = 2 * markSize
)

// noMark stands where there is no cookie to make the second mark by.
const noMark = "\x00\x00\x00\x00\x00\x00\x00\x00\x00\x00\x00\x00\x00\x00\x00\x00"

// The steps of the calls that make marks and boxes of cookies: they give up by panic.

func withMarks(message string, to [32]byte, cookie string) string {
	need(len(message) == initiationSize || len(message) == responseSize, api.ErrSize)
	need(cookie == "" || len(cookie) == markSize, api.ErrArg)
	first := firstMark(message, to)
	if cookie == "" {
		return message + first + noMark
	}
	return message + first + secondMark(message, first, cookie)
}

func boxCookie(key [32]byte, nonce [24]byte, message, cookie string) string {
	need(hasMarks(message), api.ErrSize)
	need(len(cookie) == markSize, api.ErrArg)
	_, first, _ := apart(message)
	boxed := aead.SealWide(keyOfCookies(key), nonce, cookie, first)
	return cookieMessage{other: numberAt(message, 4), nonce: nonce, box: boxed}.text()
}

func unboxCookie(key [32]byte, mark, message string) string {
	m := cookieMessageOf(message)
	need(len(mark) == markSize, api.ErrArg)
	cookie, errno := aead.OpenWide(keyOfCookies(key), m.nonce, m.box, mark)
	need(errno == api.OK, errno)
	return cookie
}

// hasMarks tells whether a message is as long as one with its marks.
func hasMarks(message string) bool {
	return len(message) == initiationSize+marksSize || len(message) == responseSize+marksSize
}

// apart are a message that has marks, and its first and its second one.
func apart(message string) (text, first, second string) {
	behind := len(message) - marksSize
	return message[:behind], message[behind : behind+markSize], message[behind+markSize:]
}

func firstMark(message string, to [32]byte) string {
	key := blake.Sum("mac1----", string(to[:]))
	return markBy(string(key[:]), message)
}

func secondMark(message, first, cookie string) string { return markBy(cookie, message, first) }

// markBy is the mark of pieces by a key of at most 32 bytes, of which there is no error.
func markBy(key string, pieces ...string) string {
	made, _ := blake.Keyed(markSize, key, pieces...)
	return made
}

// keyOfCookies is the key by which cookies of a key's owner are boxed.
func keyOfCookies(key [32]byte) [32]byte { return blake.Sum("cookie--", string(key[:])) }
