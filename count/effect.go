package count

import "phaeton/api"

// tally is a counter whose methods are what occurrences do to it; settle sees to its state afterwards.
type tally api.Counter

type effect func(tally) tally

// table returns the effects of the occurrences that have one while a node is not Off.
func table() map[int]effect {
	heardWrong := func(by int) effect {
		return func(c tally) tally {
			c.Rec = min(c.Rec+by, topCount)
			return c
		}
	}
	return map[int]effect{
		api.TxOk:   tally.sent,
		api.RxOk:   tally.heard,
		api.TxErr:  tally.sentWrong,
		api.RxErr:  heardWrong(1),
		api.RxLong: heardWrong(8),
	}
}

func (c tally) sent() tally {
	c.Tec = max(c.Tec-1, 0)
	return c
}

func (c tally) heard() tally {
	if c.Rec > topActive {
		c.Rec = topActive // one good frame is enough to be Active again, as far as Rec goes
		return c
	}
	c.Rec = max(c.Rec-1, 0)
	return c
}

func (c tally) sentWrong() tally {
	c.Tec += 8 // no bound: above topCount the node is Off
	return c
}
