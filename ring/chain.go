package ring

import (
	"millstream/api"
	"millstream/sched"
)

// chain is a machine of machines of one kind, done one behind the other. What comes next, and how each ended, is its owner's: two functions tell it.
type chain[M sched.Machine] struct {
	now  M
	busy bool // now isn't at its end; without it the chain is at its own

	next  func() (M, bool) // what comes next, if something does
	ended func(m M)        // is told each that is at its end
}

// begin goes to the first machine.
func (c *chain[M]) begin() {
	c.now, c.busy = c.next()
	c.settle()
}

// Next is the next access of the machine that it is at.
func (c *chain[M]) Next() (api.Access, bool) {
	if !c.busy {
		return api.Access{}, false
	}
	return c.now.Next()
}

// Take tells that machine what the access told.
func (c *chain[M]) Take(x api.Answer) {
	if !c.busy {
		return
	}
	c.now.Take(x)
	c.settle()
}

// settle goes on to the first machine that isn't at its end: some are there from the beginning.
func (c *chain[M]) settle() {
	for c.busy {
		if _, ok := c.now.Next(); ok {
			return
		}
		c.ended(c.now)
		c.now, c.busy = c.next()
	}
}
