package taint_test

import (
	"cmp"
	"maps"
	"math/rand/v2"
	"regexp"
	"slices"
	"strconv"
	"strings"

	"berth/api"
)

var (
	nameForm  = regexp.MustCompile(`^[a-z0-9]([a-z0-9-]*[a-z0-9])?(\.[a-z0-9]([a-z0-9-]*[a-z0-9])?)*$`)
	shortForm = regexp.MustCompile(`^[A-Za-z0-9]([A-Za-z0-9_.-]*[A-Za-z0-9])?$`)
	valueForm = regexp.MustCompile(`^(|([A-Za-z0-9-][A-Za-z0-9_.-]*)?[A-Za-z0-9])$`)
)

// The plain models say what the chapter says, by other means than the program.

func plainKey(s string) bool {
	at := strings.LastIndexByte(s, '/')
	name, short := s[:max(at, 0)], s[at+1:]
	return len(short) <= 63 && shortForm.MatchString(short) && (at < 0 || len(name) <= 63 && nameForm.MatchString(name))
}

func plainValue(s string) bool { return len(s) <= 63 && valueForm.MatchString(s) }

func plainEffect(s string) bool {
	return slices.Contains([]string{"NoSchedule", "PreferNoSchedule", "NoExecute"}, s)
}

type fault struct {
	is  bool
	err api.Errno
}

// firstOf is the first fault that is true.
func firstOf(all ...fault) api.Errno {
	for _, f := range all {
		if f.is {
			return f.err
		}
	}
	return api.OK
}

func plainTaint(t api.Taint) api.Errno {
	return firstOf(fault{!plainKey(t.Key), api.ErrTaintKey}, fault{!plainValue(t.Value), api.ErrTaintValue}, fault{!plainEffect(t.Effect), api.ErrEffect})
}

func plainToleration(o api.Toleration) api.Errno {
	var keyFits, valueFits bool
	switch o.Op {
	case "Exists":
		keyFits, valueFits = o.Key == "" || plainKey(o.Key), o.Value == ""
	case "Equal":
		keyFits, valueFits = plainKey(o.Key), plainValue(o.Value)
	default:
		return api.ErrOperator
	}
	return firstOf(fault{!keyFits, api.ErrTaintKey}, fault{!valueFits, api.ErrTaintValue}, fault{o.Effect != "" && !plainEffect(o.Effect), api.ErrEffect})
}

func plainText(t api.Taint) (string, api.Errno) {
	if err := plainTaint(t); err != api.OK {
		return "", err
	}
	pieces := []string{t.Key, "=", t.Value, ":", t.Effect}
	if t.Value == "" {
		pieces = slices.Delete(pieces, 1, 2)
	}
	return strings.Join(pieces, ""), api.OK
}

func plainParse(text string) (api.Taint, api.Errno) {
	pieces := strings.Split(text, ":")
	if len(text) >= 257 || len(pieces) == 1 {
		return api.Taint{}, api.ErrTaintText
	}
	effect := pieces[len(pieces)-1]
	pieces = strings.SplitN(strings.Join(pieces[:len(pieces)-1], ":"), "=", 2)
	t := api.Taint{Key: pieces[0], Effect: effect}
	if len(pieces) == 2 {
		t.Value = pieces[1]
		if t.Value == "" {
			return api.Taint{}, api.ErrTaintText
		}
	}
	if err := plainTaint(t); err != api.OK {
		return api.Taint{}, err
	}
	return t, api.OK
}

func plainTolerationText(o api.Toleration) (string, api.Errno) {
	if err := plainToleration(o); err != api.OK {
		return "", err
	}
	pieces := []string{o.Key}
	if o.Key == "" {
		pieces = []string{"*"}
	}
	if o.Op == "Equal" {
		pieces = append(pieces, "=", o.Value)
	}
	if o.Effect != "" {
		pieces = append(pieces, ":", o.Effect)
	}
	return strings.Join(pieces, ""), api.OK
}

func plainParseToleration(text string) (api.Toleration, api.Errno) {
	pieces := strings.Split(text, ":")
	colons := len(pieces) - 1
	rest, effect := text, ""
	if colons > 0 {
		rest, effect = strings.Join(pieces[:colons], ":"), pieces[colons]
	}
	if len(text) >= 257 || colons > 0 && effect == "" || rest == "" {
		return api.Toleration{}, api.ErrTaintText
	}
	o := api.Toleration{Key: rest, Op: "Exists", Effect: effect}
	if at := strings.Index(rest, "="); at >= 0 {
		o = api.Toleration{Key: rest[:at], Op: "Equal", Value: rest[at+1:], Effect: effect}
	} else if rest == "*" {
		o.Key = ""
	}
	if err := plainToleration(o); err != api.OK {
		return api.Toleration{}, err
	}
	return o, api.OK
}

// spot is where a taint stands in a list's order: no text of a key or an effect that is valid has the byte 0.
func spot(t api.Taint) string { return t.Key + "\x00" + t.Effect }

func plainMake(list []api.Taint) ([]api.Taint, int, api.Errno) {
	if len(list) >= 17 {
		return nil, 0, api.ErrTaints
	}
	for i, t := range list {
		if err := plainTaint(t); err != api.OK {
			return nil, i, err
		}
	}
	first := map[string]int{}
	for i, t := range list {
		if _, again := first[spot(t)]; again {
			return nil, i, api.ErrTaintDup
		}
		first[spot(t)] = i
	}
	var out []api.Taint
	for _, s := range slices.Sorted(maps.Keys(first)) {
		out = append(out, list[first[s]])
	}
	return out, 0, api.OK
}

func plainCheck(list []api.Taint) api.Errno {
	made, _, err := plainMake(list)
	if err != api.OK {
		return err
	}
	return firstOf(fault{!slices.Equal(made, list), api.ErrTaintDup})
}

func plainPut(list []api.Taint, t api.Taint) ([]api.Taint, api.Errno) {
	if err := cmp.Or(plainCheck(list), plainTaint(t)); err != api.OK {
		return nil, err
	}
	out := slices.Clone(list)
	at := slices.IndexFunc(out, func(x api.Taint) bool { return x.Key == t.Key && x.Effect == t.Effect })
	if at >= 0 {
		out[at] = t
		return out, api.OK
	}
	if len(list) == 16 {
		return nil, api.ErrTaints
	}
	at = 0
	for at < len(out) && spot(out[at]) < spot(t) {
		at++
	}
	return slices.Insert(out, at, t), api.OK
}

func plainDel(list []api.Taint, key, effect string) ([]api.Taint, bool) {
	gone := func(t api.Taint) bool { return t.Key == key && t.Effect == effect }
	return slices.DeleteFunc(slices.Clone(list), gone), slices.ContainsFunc(list, gone)
}

func plainMatch(o api.Toleration, t api.Taint) bool {
	keys, values := []string{o.Key}, []string{o.Value}
	switch o.Op {
	case "Exists":
		values = []string{t.Value}
		if o.Key == "" {
			keys = append(keys, t.Key)
		}
	case "Equal":
	default:
		return false
	}
	return slices.Contains([]string{"", t.Effect}, o.Effect) && slices.Contains(keys, t.Key) && slices.Contains(values, t.Value)
}

func plainLeft(list []api.Taint, os []api.Toleration, effect string) []api.Taint {
	return slices.DeleteFunc(slices.Clone(list), func(t api.Taint) bool {
		return t.Effect != effect || slices.ContainsFunc(os, func(o api.Toleration) bool { return plainMatch(o, t) })
	})
}

var (
	long       = strings.Repeat("k", 63)
	goodKeys   = []string{"a", "b", "gpu", "zone", "B", "a.b", "a-b", "a_b", "a/b", "x.y/Z", "0", strings.Repeat("n", 63) + "/" + long}
	badKeys    = []string{"", "*", "-a", "a-", "a/", "/a", "a/b/c", "A/b", "a=b", "a:b", "a,b", "\xff", " ", long + "k"}
	goodValues = []string{"", "1", "-5", "x", "a..B", long}
	badValues  = []string{"-", "a-", ".a", "_a", "5 ", "x=y", "x:y", "a/b", "*", "\xc3\xa9", long + "k"}
	effects    = []string{"NoExecute", "NoSchedule", "PreferNoSchedule"}
	badEffects = []string{"", "noSchedule", "NoScheduleX", "NOEXECUTE", "Exists", "NoExecute ", "*", "\xff"}
	operators  = []string{"Equal", "Exists"}
	badOps     = []string{"", "equal", "exists", "EXISTS", "Equals", "=", "NoExecute"}
)

func oneOf[T any](r *rand.Rand, from []T) T { return from[r.IntN(len(from))] }

// pick is one of the wrong ones one time in so many.
func pick(r *rand.Rand, right, wrong []string, odds int) string {
	if r.IntN(odds) == 0 {
		return oneOf(r, wrong)
	}
	return oneOf(r, right)
}

func anyTaint(r *rand.Rand, odds int) api.Taint {
	return api.Taint{Key: pick(r, goodKeys, badKeys, odds), Value: pick(r, goodValues, badValues, odds), Effect: pick(r, effects, badEffects, odds)}
}

func anyToleration(r *rand.Rand, odds int) api.Toleration {
	o := api.Toleration{Key: pick(r, goodKeys, badKeys, odds), Op: pick(r, operators, badOps, odds), Effect: pick(r, append([]string{""}, effects...), badEffects, odds)}
	if o.Op != "Exists" || r.IntN(odds) == 0 {
		o.Value = pick(r, goodValues, badValues, odds)
	}
	return o
}

// anyMade is a list in its order.
func anyMade(r *rand.Rand, most int) []api.Taint {
	m := map[string]api.Taint{}
	for range r.IntN(most + 1) {
		t := anyTaint(r, 1<<30)
		m[spot(t)] = t
	}
	var out []api.Taint
	for _, s := range slices.Sorted(maps.Keys(m)) {
		out = append(out, m[s])
	}
	return out
}

// anyRaw is a list in any order, with doubles and wrong taints here and there.
func anyRaw(r *rand.Rand) []api.Taint {
	var out []api.Taint
	odds := 2 + r.IntN(60)
	for range r.IntN(8) {
		out = append(out, anyTaint(r, odds))
	}
	switch r.IntN(6) {
	case 0:
		slices.SortStableFunc(out, func(a, b api.Taint) int { return strings.Compare(spot(a), spot(b)) })
	case 1:
		out = append(out, many(10+r.IntN(8))...)
	case 2:
		out = append(out, out...)
	}
	return out
}

func anyTolerations(r *rand.Rand) []api.Toleration {
	var out []api.Toleration
	odds := 2 + r.IntN(60)
	for range r.IntN(5) {
		out = append(out, anyToleration(r, odds))
	}
	return out
}

// mark is a taint by its key, value and effect.
func mark(key, value, effect string) api.Taint {
	return api.Taint{Key: key, Value: value, Effect: effect}
}

// marks is a list of taints by keys, values and effects by turns.
func marks(s ...string) []api.Taint {
	out := []api.Taint{}
	for i := 0; i < len(s); i += 3 {
		out = append(out, mark(s[i], s[i+1], s[i+2]))
	}
	return out
}

// may is a toleration by its key, operator, value and effect.
func may(key, op, value, effect string) api.Toleration {
	return api.Toleration{Key: key, Op: op, Value: value, Effect: effect}
}

// many is a list of n taints that rise.
func many(n int) []api.Taint {
	out := []api.Taint{}
	for i := range n {
		out = append(out, mark("k"+strconv.Itoa(100+i), strconv.Itoa(i), effects[i%3]))
	}
	return out
}

func reversed(l []api.Taint) []api.Taint {
	out := slices.Clone(l)
	slices.Reverse(out)
	return out
}

// texts gives every text of at most n pieces.
func texts(pieces []string, n int, each func(string)) {
	var grow func(s string, left int)
	grow = func(s string, left int) {
		each(s)
		if left == 0 {
			return
		}
		for _, p := range pieces {
			grow(s+p, left-1)
		}
	}
	grow("", n)
}
