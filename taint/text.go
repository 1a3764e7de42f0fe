package taint

import (
	"strings"

	"berth/api"
)

// everyKey is what a toleration's text has for the empty key; it is no key itself.
const everyKey = "*"

// Text: the taint's one text.
func Text(t api.Taint) (string, api.Errno) {
	if err := CheckTaint(t); err != api.OK {
		return "", err
	}
	text := t.Key
	if t.Value != "" {
		text += "=" + t.Value
	}
	return text + ":" + t.Effect, api.OK
}

// Parse: the taint that a text writes.
func Parse(text string) (api.Taint, api.Errno) {
	rest, effect, found := cutLast(text)
	if len(text) > api.MaxTaintText || !found {
		return api.Taint{}, api.ErrTaintText
	}
	key, value, found := strings.Cut(rest, "=")
	if found && value == "" {
		return api.Taint{}, api.ErrTaintText
	}
	t := api.Taint{Key: key, Value: value, Effect: effect}
	if err := CheckTaint(t); err != api.OK {
		return api.Taint{}, err
	}
	return t, api.OK
}

// TolerationText: the toleration's one text.
func TolerationText(o api.Toleration) (string, api.Errno) {
	if err := CheckToleration(o); err != api.OK {
		return "", err
	}
	text := o.Key
	if isEveryKey(o) {
		text = everyKey
	}
	if o.Op == api.Equal {
		text += "=" + o.Value
	}
	if o.Effect != "" {
		text += ":" + o.Effect
	}
	return text, api.OK
}

// ParseToleration: the toleration that a text writes.
func ParseToleration(text string) (api.Toleration, api.Errno) {
	rest, effect, found := cutLast(text)
	if len(text) > api.MaxTaintText || found && effect == "" || rest == "" {
		return api.Toleration{}, api.ErrTaintText
	}
	o := readRest(rest)
	o.Effect = effect
	if err := CheckToleration(o); err != api.OK {
		return api.Toleration{}, err
	}
	return o, api.OK
}

// readRest is the toleration that a text writes which has no effect.
func readRest(rest string) api.Toleration {
	key, value, found := strings.Cut(rest, "=")
	if found {
		return api.Toleration{Key: key, Op: api.Equal, Value: value}
	}
	if rest == everyKey {
		return api.Toleration{Op: api.Exists}
	}
	return api.Toleration{Key: rest, Op: api.Exists}
}

// cutLast cuts at the last colon, since an effect never has one; without a colon all stands ahead.
func cutLast(text string) (ahead, behind string, found bool) {
	at := strings.LastIndexByte(text, ':')
	if at < 0 {
		return text, "", false
	}
	return text[:at], text[at+1:], true
}
