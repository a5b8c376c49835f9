package loop

import "colander/api"

// serve serves a client once.
func (l *Loop) serve(c *client) {
	l.settle(c)
	c.serve(l.config.Read)
	l.settle(c)
	if c.up != nil {
		c.up.serve(c, l.config.Read)
	}
	l.settle(c)
}

// serve tells the machine what comes from the client.
func (c *client) serve(most int) {
	if c.State() == api.Aborted {
		c.machine.ClientBreak()
		return
	}
	c.Read(c.machine.Client(c.Peek(most)))
	if c.Ended() {
		c.machine.ClientEnd()
	}
}

// serve tells the client's machine what comes from the upstream.
func (u *upstream) serve(c *client, most int) {
	if u.State() == api.Aborted {
		c.machine.UpBreak()
		return
	}
	u.Read(c.machine.Up(u.Peek(most)))
	if u.Ended() {
		c.machine.UpEnd()
	}
}

// settle does what a client's machine asks for.
func (l *Loop) settle(c *client) {
	c.dropUp()
	l.writeUp(c)
	c.machine.OutDone(c.Write(c.machine.Out()))
	switch {
	case c.machine.End() == api.Aborted:
		c.Abort()
	case c.machine.End() == api.Closing && len(c.machine.Out()) == 0:
		c.Close()
	}
}

// dropUp ends the upstream that the machine does not want, or that may not be asked again: what came unasked is no answer.
func (c *client) dropUp() {
	asked := c.machine.Requests() > c.settled
	c.settled = c.machine.Requests()
	if c.up == nil {
		return
	}
	spoilt := c.up.Waiting() > 0 || c.up.Ended() || c.up.State() != api.Open
	switch fate := c.machine.UpFate(); {
	case fate == 1:
		c.up.Close()
	case fate == 2, asked && spoilt:
		c.up.Abort()
	default:
		return
	}
	c.up = nil
}

// writeUp writes what goes upstream, and opens an upstream for it if there is none.
func (l *Loop) writeUp(c *client) {
	out := c.machine.UpOut()
	if len(out) == 0 {
		return
	}
	if c.up == nil {
		c.up = &upstream{Conn: l.connect(), client: c.number}
		l.upstreams = append(l.upstreams, c.up)
	}
	c.machine.UpOutDone(c.up.Write(out))
}

// Log tells what became of all (R3).
func (l *Loop) Log() api.Log {
	log := api.Log{Refused: l.refused}
	for _, c := range l.clients {
		log.Clients = append(log.Clients, api.Trace{
			Written: c.Written(), State: c.State(), Requests: c.machine.Requests(), Answers: c.machine.Answers(), Held: c.held,
		})
	}
	for _, u := range l.upstreams {
		log.Upstreams = append(log.Upstreams, api.Trace{Written: u.Written(), State: u.State(), Client: u.client})
	}
	return log
}

// Run does a whole script (R4).
func Run(c api.Config, script []api.Step) api.Log {
	l := New(c)
	if l == nil {
		return api.Log{}
	}
	for _, s := range script {
		l.Do(s)
	}
	return l.Log()
}
