package score

import (
	"slices"

	"berth/api"
	"berth/labels"
	"berth/quant"
	"berth/taint"
)

// The places of the five parts of the points.
const (
	least = iota
	balance
	prefer
	spread
	untainted
)

// parts are the five parts of a node's points.
type parts [5]int

// factors: how often each part counts in Total.
var factors = parts{least: 1, balance: 1, prefer: 1, spread: 2, untainted: 3}

func (p parts) points() api.Points {
	total := 0
	for at, n := range p {
		total += n * factors[at]
	}
	return api.Points{Least: p[least], Balance: p[balance], Prefer: p[prefer], Spread: p[spread], Taint: p[untainted], Total: total}
}

// shares are how many hundredths of each resource of the node would be left beside the pod.
func (j judge) shares(node api.Node) []int {
	room, _ := j.c.Room(node.Name)
	var all []int
	for _, item := range node.Cap {
		left := quant.Get(room, item.Name) - quant.Get(j.pod.Needs, item.Name)
		share, _ := quant.Share(max(left, 0), item.N, 100)
		all = append(all, share)
	}
	return all
}

// average of the shares, rounded down; 0 of none.
func average(shares []int) int {
	if len(shares) == 0 {
		return 0
	}
	sum := 0
	for _, share := range shares {
		sum += share
	}
	return sum / len(shares)
}

// gap is how far the shares lie from each other; none: 0.
func gap(shares []int) int {
	if len(shares) == 0 {
		return 0
	}
	return slices.Max(shares) - slices.Min(shares)
}

// spreading is less, the more bound pods of the pod's kind stand in the node's domain.
func (j judge) spreading(node api.Node) int {
	kind, has := labels.Get(j.pod.Labels, api.SpreadKey)
	if !has {
		return 100
	}
	if _, in := labels.Get(node.Labels, api.SpreadTopo); !in {
		return 0
	}
	slot, _ := j.c.Slot(node.Name)
	alike, _ := j.x.With(api.SpreadTopo, slot, api.SpreadKey, kind)
	return 100 / (1 + alike)
}

// cleanness is less, the more taints of the node would rather keep the pod away.
func (j judge) cleanness(node api.Node) int {
	against := taint.Left(node.Taints, j.pod.Tolerations, api.PreferNoSchedule)
	return max(0, 100-10*len(against))
}
