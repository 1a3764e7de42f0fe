package vm_test

import (
	"math"
	"slices"
	"testing"

	"berth/api"
	"berth/vm"
)

// P22.1: raw pods: labels in any order and twice, keys and values of any kind; the value of a label is the first one's, all keys are keys.
func TestRawLabels(t *testing.T) {
	b := ordinary(t)
	pod := api.Pod{Name: "No name!", Labels: tags("zone", "y", "rank", "-5", "disk", "a b", "zone", "x", "", "ssd", "no key!", "\xff", "rank", "3", "disk", "ssd")}
	b.wants(t, pod, "podlabel zone; one; label 0 zone; end", 2)
	b.wants(t, pod, "podlabel rank; int; number 0 rank ==; end", 1)
	b.wants(t, pod, "podlabel disk; one; label 0 disk; end")
	b.wants(t, pod, "podlabel _; one; label 0 disk; end", 1)
	b.wants(t, pod, "podkeys; has 0; end", every...)
	b.wants(t, pod, "podkeys; taint; end", 2, 63)
	b.allOrNone(t, pod, "text zone; podkeys; member %d", true)
	b.allOrNone(t, pod, "text _; podkeys; member %d", true)
	b.allOrNone(t, pod, "text x; podkeys; member %d", false)
	b.allOrNone(t, pod, "podname; texts new,_; member %d", false)
	p := assemble("text key; podkeys; member 0; podlabel key; texts value; member 0; and; podname; texts name; member 0; and; end")
	p.Texts, p.Sets = []string{"no key!"}, [][]string{{"\xff"}, {"No name!"}}
	if slots, _, e := b.try(t, p, pod); e != api.OK || !slices.Equal(slots, every) {
		t.Errorf("odd texts: %v, %d", slots, e)
	}
	slices.Reverse(pod.Labels)
	b.wants(t, pod, "podlabel zone; one; label 0 zone; end", 0, 1)
	b.wants(t, pod, "podlabel rank; int; number 0 rank ==; end", 0, 63)
	b.wants(t, pod, "podlabel disk; one; label 0 disk; end", 1)
	pod.Labels = slices.Repeat(tags("host", "a", "host", "b"), 500) // far more than a pod may have
	b.wants(t, pod, "podlabel host; one; label 0 host; end", 0)
	b.wants(t, pod, "podkeys; has 0; end", every...)
	pod.Labels = tags("rank", "", "rank", "3") // the first one counts, though it is no number
	b.wants(t, pod, "podlabel rank; int; number 0 rank ==; end")
	b.wants(t, pod, "podlabel rank; one; label 0 zone; end", last)
}

// P22.1: raw pods: tolerations that may not be, in any order and twice, and more than a pod may have.
func TestRawTolerations(t *testing.T) {
	b := ordinary(t)
	exists := func(key, effect string) api.Toleration {
		return api.Toleration{Key: key, Op: api.Exists, Effect: effect}
	}
	for _, x := range []struct {
		list  []api.Toleration
		slots []int // at which NoSchedule is tolerated
	}{
		{[]api.Toleration{exists("zone", ""), exists("gpu", "")}, every},
		{[]api.Toleration{exists("gpu", ""), exists("gpu", ""), exists("zone", "Never")}, []int{0, 1, 63, last}},
		{[]api.Toleration{exists("zone", api.NoExecute), exists("zone", api.NoSchedule)}, []int{1, 2, last}},
		{[]api.Toleration{{Key: "gpu", Op: "exists"}, {Key: "zone"}, {}}, []int{1, last}},
		{[]api.Toleration{{Op: api.Equal}, {Op: api.Equal, Value: "x"}}, []int{1, last}},
		{[]api.Toleration{{Key: "zone", Op: api.Equal, Value: "x"}, {Key: "zone", Op: api.Equal, Value: "y"}}, []int{1, 2, last}},
		{append(slices.Repeat([]api.Toleration{exists("\xff", "")}, 300), exists("", "")), every},
	} {
		b.wants(t, api.Pod{Tolerations: x.list}, "tolerated NoSchedule; end", x.slots...)
	}
}

// P22.3: the answer hangs on the pod's Name, Labels and Tolerations, on nothing else of it.
func TestOtherFieldsOfThePod(t *testing.T) {
	b := ordinary(t)
	r := newChance(1)
	for range 400 {
		p, pod := r.program(one(r, 3, 10, 30)), r.rawPod()
		want, took, e := vm.Run(p, b.x, pod)
		other := pod
		other.Needs = []api.Item{{Name: "cpu", N: math.MaxInt}, {Name: "", N: -1}}
		other.Require, other.Priority = one(r, "false", "!!", `node.name == "a"`), r.IntN(9)-4
		other.Apart = []api.Apart{{Topo: "zone", Select: "true"}, {}}
		other.Prefer = []api.Prefer{{Weight: 100, Text: "true"}, {Weight: -1}}
		got, stat, f := vm.Run(p, b.x, other)
		if e != api.OK || f != api.OK || stat != took || !slices.Equal(got.Members(), want.Members()) {
			t.Fatalf("%s: %v, %v, %d; with other fields %v, %v, %d", told(p), want.Members(), took, e, got.Members(), stat, f)
		}
	}
}
