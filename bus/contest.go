package bus

import (
	"bytes"
	"slices"

	"phaeton/api"
	"phaeton/arb"
	"phaeton/frame"
	"phaeton/node"
	"phaeton/wire"
)

// nobody stands for the winner's index if there are no senders.
const nobody = -1

// contest is a slot before it has an effect on the nodes: what is transmitted, by whom, and who sees it corrupted.
type contest struct {
	nodes     []api.Node
	who       []int
	winner    int
	frame     api.Frame // the winner's
	sends     []bool    // for each node whether it is the winner or a twin
	disturbed bool
}

// effect says what becomes of the node with an index.
type effect func(at int) api.Node

func begin(l []api.Node, h api.Hit) contest {
	c := contest{nodes: l, who: h.Who, winner: nobody, sends: make([]bool, len(l))}
	frames, senders := offers(l)
	win := arb.Win(frames)
	if win < 0 {
		return c
	}
	c.winner, c.frame = senders[win], frames[win]
	rank, unlike := frame.Rank(c.frame), false
	for i := range len(frames) {
		if slices.Equal(frame.Rank(frames[i]), rank) {
			c.sends[senders[i]] = true
			unlike = unlike || !frame.Same(frames[i], c.frame)
		}
	}
	c.disturbed = unlike || c.corrupted()
	return c
}

// offers returns the frames of the senders, and the senders' indices.
func offers(l []api.Node) ([]api.Frame, []int) {
	var frames []api.Frame
	var senders []int
	for at := range len(l) {
		if f, has := node.Next(l[at]); has {
			frames, senders = append(frames, f), append(senders, at)
		}
	}
	return frames, senders
}

// corrupted reports whether a node sees the bits corrupted in a way that counts for all.
func (c contest) corrupted() bool {
	for at := range len(c.nodes) {
		if c.sends[at] && c.hit(at) || !c.sends[at] && c.objects(at) {
			return true
		}
	}
	return false
}

// unacknowledged reports whether there is no node that would answer the frame.
func (c contest) unacknowledged() bool {
	for at := range len(c.nodes) {
		if !c.sends[at] && c.nodes[at].Count.State != api.Off {
			return false
		}
	}
	return true
}

func (c contest) hit(at int) bool { return slices.Contains(c.who, at) }

// objects reports whether a node sees the bits corrupted and is Active, so that all others notice.
func (c contest) objects(at int) bool {
	return c.hit(at) && c.nodes[at].Count.State == api.Active
}

// spoilt is the effect of a slot that is spoilt.
func (c contest) spoilt(at int) api.Node {
	n := c.nodes[at]
	switch {
	case !c.sends[at]:
		return node.Heard(n, c.frame, false, c.objects(at))
	case n.Count.State == api.Passive && !c.disturbed:
		return n // if nobody is there to answer, that alone never leads to Off
	}
	return node.Sent(n, false)
}

// passed is the effect of a slot that is not spoilt.
func (c contest) passed(at int) api.Node {
	if c.sends[at] {
		return node.Sent(c.nodes[at], true)
	}
	return node.Heard(c.nodes[at], c.frame, !c.hit(at), false)
}

// after returns the nodes after an effect on each of them.
func (c contest) after(e effect) []api.Node {
	l := make([]api.Node, len(c.nodes))
	for at := range len(c.nodes) {
		l[at] = e(at)
	}
	return l
}

// told returns the description of a slot with a frame, which more bits follow.
func (c contest) told(ok bool, more int) api.Told {
	f := c.frame
	f.Data = bytes.Clone(f.Data) // what describes a state as it was has bytes of its own
	return api.Told{Winner: c.winner, Frame: f, Ok: ok, Bits: wire.Length(f) + more}
}
