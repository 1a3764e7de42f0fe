package cluster

import (
	"slices"

	"berth/api"
	"berth/quant"
)

// account is what is used of one node, and the names of the pods that use it, rising.
type account struct {
	used []api.Item
	pods []string
}

// ledger is what is used of each node, by the node's name. A node to which no pod is bound has no account: so adding and removing nodes changes nothing here.
type ledger struct {
	accounts map[string]account
}

func newLedger() ledger { return ledger{map[string]account{}} }

// used is what the pods on a node need together; not to be written into.
func (l *ledger) used(node string) []api.Item { return l.accounts[node].used }

// users is the names of the pods on a node; not to be written into.
func (l *ledger) users(node string) []string { return l.accounts[node].pods }

// charge writes down a pod that the node has room for: so no sum is above the node's capacity, and none can fail.
func (l *ledger) charge(node string, p api.Pod) {
	a := l.accounts[node]
	a.used, _, _ = quant.Add(a.used, p.Needs)
	at, _ := slices.BinarySearch(a.pods, p.Name)
	a.pods = slices.Insert(a.pods, at, p.Name)
	l.accounts[node] = a
}

// release strikes out a pod that was written down: what it needs is part of what is used.
func (l *ledger) release(node string, p api.Pod) {
	a := l.accounts[node]
	a.used, _, _ = quant.Sub(a.used, p.Needs)
	at, _ := slices.BinarySearch(a.pods, p.Name)
	a.pods = slices.Delete(a.pods, at, at+1)
	if len(a.pods) == 0 {
		delete(l.accounts, node)
		return
	}
	l.accounts[node] = a
}
