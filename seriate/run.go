package seriate

import (
	"sync"

	"seriate/api"
)

// run gives the clients their turns, and tells how each has ended.
func (s *state) run(programs [][]api.Ins, schedule []int) []api.Outcome {
	var all sync.WaitGroup
	clients := make([]*client, len(programs))
	for i, p := range programs {
		clients[i] = newClient(s, p)
		all.Add(1)
		go func() {
			defer all.Done()
			clients[i].live()
		}()
	}
	for _, n := range schedule {
		clients[n].giveTurn()
	}
	for _, c := range clients {
		c.dismiss()
	}
	all.Wait()
	return outcomes(clients)
}

func outcomes(clients []*client) []api.Outcome {
	l := make([]api.Outcome, len(clients))
	for i, c := range clients {
		l[i] = c.outcome
	}
	return l
}

// giveTurn waits till the client has had its turn, so that no two of them ever
// use the state at the same time.
func (c *client) giveTurn() {
	c.turns <- struct{}{}
	<-c.answers
}

// dismiss waits as well: the client may have a transaction to abort.
func (c *client) dismiss() {
	close(c.turns)
	<-c.answers
}
