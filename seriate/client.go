package seriate

import "seriate/api"

// client: a program that runs in a goroutine of its own, in its turns alone.
type client struct {
	state   *state
	program []api.Ins
	next    int    // the place of its next instruction
	last    string // the text of its last read that was answered with OK, and whether one was found
	found   bool
	done    bool // its transaction has ended, or could not begin
	outcome api.Outcome
	turns   chan struct{} // of Run, which closes it
	answers chan struct{} // of the client, which closes it
}

func newClient(s *state, program []api.Ins) *client {
	return &client{state: s, program: program, turns: make(chan struct{}), answers: make(chan struct{})}
}

// live answers each turn, and leaves when there are no more.
func (c *client) live() {
	defer close(c.answers)
	for range c.turns {
		c.takeTurn()
		c.answers <- struct{}{}
	}
	c.leave()
}

func (c *client) takeTurn() {
	switch {
	case c.done:
	case !c.hasBegun():
		c.begin()
	case c.next < len(c.program):
		c.step(c.program[c.next])
	}
}

func (c *client) hasBegun() bool { return c.outcome.Handle != 0 }

func (c *client) begin() {
	h, e := c.state.begin()
	if e != api.OK {
		c.done = true
		return
	}
	// If it does not commit, it is aborted when it leaves at the latest.
	c.outcome.Handle, c.outcome.End = h, api.Aborted
}

func (c *client) leave() {
	if c.hasBegun() && !c.done {
		c.state.abort(c.outcome.Handle)
	}
}

func (c *client) step(i api.Ins) {
	c.next++
	a := c.do(i)
	c.outcome.Answers = append(c.outcome.Answers, a)
	c.done = hasEnded(a)
	if a.Kind == api.Commit && a.Err == api.OK {
		c.outcome.End = api.Committed
	}
}

// hasEnded tells whether behind that answer the transaction is no longer active.
func hasEnded(a api.Answer) bool {
	switch a.Err {
	case api.OK:
		return a.Kind == api.Commit || a.Kind == api.Abort
	case api.ErrConflict, api.ErrUnsafe:
		return true
	}
	return false
}

func (c *client) do(i api.Ins) api.Answer {
	a := api.Answer{Kind: i.Kind}
	h := c.outcome.Handle
	switch i.Kind {
	case api.Get:
		a.Text, a.Found, a.Err = c.state.get(h, i.Key)
		c.remember(a)
	case api.Scan:
		var l []api.Pair
		l, a.Err = c.state.scan(h, i.Key, i.Value)
		a.Text, a.Found = joined(l), len(l) > 0
		c.remember(a)
	case api.Put:
		a.Err = c.state.write(h, api.Change{Key: i.Key, Value: i.Value})
	case api.Add:
		a.Err = c.state.write(h, api.Change{Key: i.Key, Value: chained(c.last, i.Value)})
	case api.Del:
		a.Err = c.state.write(h, api.Change{Key: i.Key, Gone: true})
	case api.Skip:
		c.skip(i.N)
	case api.Commit:
		a.Err = c.state.commit(h)
	case api.Abort:
		a.Err = c.state.abort(h)
	}
	return a
}

// remember keeps what a read has answered.
func (c *client) remember(a api.Answer) {
	if a.Err == api.OK {
		c.last, c.found = a.Text, a.Found
	}
}

func (c *client) skip(n int) {
	if c.found {
		c.next += n
	}
}

func joined(l []api.Pair) string {
	text := ""
	for _, p := range l {
		text = chained(text, p.Value)
	}
	return text
}

// chained tells a text with more behind it, as far as that is a value. What is
// more may be of any length: no more of it is copied than can be told.
func chained(text string, more string) string { return cut(text + cut(more)) }

func cut(text string) string { return text[:min(len(text), api.MaxValue)] }
