package sorts_test

import (
	"strings"
	"testing"

	"berth/api"
)

func long(n int) string { return strings.Repeat("a", n) }

// goodKeys and badKeys: at the ends of their lengths and one beyond, and by what stands in them.
var (
	goodKeys = []string{"a", "A", "0", "a-b", "a_b", "a.b", "a..b", "n/A", "n-1.z9/a_B", long(63), long(62) + "Z", long(63) + "/" + long(63), "a/" + long(63), long(63) + "/a", "zone"}
	badKeys  = []string{"", " ", "a b", "-a", "a-", ".a", "a.", "_a", "a_", "/", "a/", "/a", "a/b/c", "A/b", "a_b/c", "a..b/c", "-a/b", long(64), long(64) + "/a", "a/" + long(64), long(127), long(62) + "-", "\u00e9", "a\x00", "a\n", "\xff", long(63) + "/" + long(62) + "-"}
)

// standing is a tree, and the place of one of its parts.
type standing struct {
	tree api.Tree
	at   int
}

// keyed are trees in which a part has the key, one for each kind of part that has one.
func keyed(key string) []standing {
	return []standing{
		{list(equal(label(node, key), text("x"))), 0},
		{list(equal(text("x"), label(pod, key))), 1},
		{list(equal(integer(label(node, key)), num(1))), 0},
		{list(near(key, yes)), 1},
		{list(apart(key, equal(name(it), text("a")))), 3},
		{list(equal(count(key, yes), num(1))), 1},
		{list(near("z", not(equal(label(it, key), text("x"))))), 0},
	}
}

// P14.1: keys, on each kind of part that has one.
func TestKeys(t *testing.T) {
	for _, key := range goodKeys {
		for _, k := range keyed(key) {
			expectTaken(t, k.tree, api.OfNode)
		}
		expectTaken(t, list(equal(label(it, key), label(pod, key))), api.OfIt)
	}
	for _, key := range badKeys {
		for _, k := range keyed(key) {
			expectFault(t, k.tree, api.OfNode, api.ErrSortKey, k.at)
		}
		expectFault(t, list(equal(label(it, key), text(""))), api.OfIt, api.ErrSortKey, 0)
		expectFault(t, list(in(label(pod, key), set())), api.OfIt, api.ErrSortKey, 0)
	}
}

// P14.1: each byte as a key, within one, and at its end.
func TestKeysByteByByte(t *testing.T) {
	for b := range 256 {
		c := string([]byte{byte(b)})
		for _, key := range []string{c, "a" + c, c + "a", "a" + c + "a", "a/" + c, c + "/a", "a/b" + c, "a" + c + "b/c"} {
			for _, k := range keyed(key) {
				check(t, k.tree, api.OfNode)
			}
		}
	}
}

// P14.1: names of resources.
func TestResources(t *testing.T) {
	for _, good := range []string{"a", "z", "cpu", "a0", "a-b", "a.b", "a/b", "a//b", "a-./0", long(32), "a" + strings.Repeat("-", 30) + "0"} {
		expectTaken(t, list(equal(capacity(node, good), num(1))), api.OfNode)
		expectTypes(t, list(cmp(num(1), api.CmpLt, capacity(node, good))), api.OfNode, "number Fixed; number OfNode; bool OfNode")
	}
	for _, bad := range []string{"", "A", "Cpu", "0", "0a", "-a", "a-", "a.", "a/", ".a", "/a", "a_b", "a b", long(33), long(127), long(31) + "-", "\u00e9", "a\x00", "a\n", "cpU"} {
		expectFault(t, list(equal(capacity(node, bad), num(1))), api.OfNode, api.ErrSortKey, 0)
		expectFault(t, list(equal(num(1), capacity(node, bad))), api.OfNode, api.ErrSortKey, 1)
	}
	for b := range 256 {
		c := string([]byte{byte(b)})
		for _, s := range []string{c, "a" + c, c + "a", "a" + c + "a"} {
			check(t, list(equal(capacity(node, s), num(1))), api.OfNode)
		}
	}
}

// P14.1: the three effects and what is nearly one.
func TestEffects(t *testing.T) {
	for _, effect := range []string{"NoSchedule", "PreferNoSchedule", "NoExecute"} {
		expectTypes(t, list(tolerated(effect)), api.OfNode, "bool OfNode")
		for _, bad := range []string{effect + " ", " " + effect, effect[1:], effect[:len(effect)-1], strings.ToLower(effect), strings.ToUpper(effect), effect + "\x00", effect + effect, effect + "s"} {
			expectFault(t, list(tolerated(bad)), api.OfNode, api.ErrSortKey, 0)
			expectFault(t, list(or(no, not(tolerated(bad)))), api.OfNode, api.ErrSortKey, 1)
		}
	}
	for _, bad := range []string{"", "Never", "a", "zone", "Exists", "Equal", long(127)} {
		expectFault(t, list(tolerated(bad)), api.OfNode, api.ErrSortKey, 0)
	}
}

// P14.1: a text that isn't a key, a name or an effect may be any text, and a number any number.
func TestTextsAndNumbersAreFree(t *testing.T) {
	for _, s := range append(badKeys, goodKeys...) {
		expectTypes(t, list(equal(text(s), text(s))), api.OfNode, "text Fixed; text Fixed; bool Fixed")
		expectTypes(t, list(in(text(s), set(text(s)))), api.OfIt, "text Fixed; text Fixed; texts Fixed; bool Fixed")
		expectTaken(t, list(equal(integer(text(s)), num(1))), api.OfIt)
	}
	for _, n := range []int{0, -1, 999999999999999999, -999999999999999999} {
		expectTypes(t, list(cmp(num(n), api.CmpGt, num(n))), api.OfNode, "number Fixed; number Fixed; bool Fixed")
		expectTypes(t, list(in(num(n), set(num(n)))), api.OfIt, "number Fixed; number Fixed; numbers Fixed; bool Fixed")
	}
}
