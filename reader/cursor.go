package reader

import "strings"

// cursor goes over a text byte by byte.
type cursor struct {
	text string
	at   int
}

// peek gives the byte that lies n bytes on. Behind the end it gives 0: a zero byte stands in no text, so both are refused at the place where they are met.
func (c *cursor) peek(n int) byte {
	if c.at+n < len(c.text) {
		return c.text[c.at+n]
	}
	return 0
}

// take goes past a word, if it stands here.
func (c *cursor) take(word string) bool {
	if !strings.HasPrefix(c.text[c.at:], word) {
		return false
	}
	c.at += len(word)
	return true
}

// digit goes past a digit of low to high, if one stands here.
func (c *cursor) digit(low, high byte) (int, bool) {
	b := c.peek(0)
	if b < low || b > high {
		return 0, false
	}
	c.at++
	return int(b - '0'), true
}

func (c *cursor) ended() bool { return c.at == len(c.text) }
