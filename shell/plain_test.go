package shell_test

import (
	"encoding/hex"
	"fmt"
	"regexp"
	"slices"
	"strconv"
	"strings"

	"joust/api"
	"joust/board"
	"joust/book"
	"joust/client"
	"joust/demo"
	"joust/mac"
	"joust/name"
	"joust/referee"
	"joust/server"
)

// plain is a shell as the chapter tells it: each line of the table is a regular expression, with what it does beside it. Server, clients and judges are those of the layers below, which have tests of their own.
type plain struct {
	c       api.Config
	opened  api.Config
	s       *server.Server
	order   []string // the clients' names, in the order in which they came
	clients map[string]*plainClient
	keys    map[uint64]string
	last    api.Errno // what was refused last in this command
}

type plainClient struct {
	*client.Client
	source string
	sent   []string
}

type deed func(p *plain, w []string) []string

type plainForm struct {
	pattern *regexp.Regexp
	bare    bool // wants no server
	do      deed
}

// form: in a form, W is a word and N is a number; a blank is a run of them.
func form(text string, bare bool, do deed) plainForm {
	text = strings.ReplaceAll(text, " ", `[ \t]+`)
	text = strings.ReplaceAll(text, "N", `(-?[0-9]{1,6})`)
	text = strings.ReplaceAll(text, "W", `([^ \t]+)`)
	return plainForm{regexp.MustCompile(`^[ \t]*(?:` + text + `)[ \t]*$`), bare, do}
}

var plainForms = []plainForm{
	{regexp.MustCompile(`(?s)^[ \t]*row(?:[ \t](.*))?$`), true, func(p *plain, w []string) []string {
		p.c.Board += w[0] + "\n"
		return nil
	}},
	form(`clear`, true, func(p *plain, w []string) []string {
		p.c.Board, p.c.Accounts = "", nil
		return nil
	}),
	form(`account W`, true, func(p *plain, w []string) []string {
		p.c.Accounts = append(slices.Clone(p.c.Accounts), api.Account{Name: w[0], Secret: mac.Tag("account", w[0])})
		return nil
	}),
	form(`set (sessions|output|rate|burst|sourcerate|sourceburst|idle|life|radius|show) N`, true, (*plain).set),
	form(`seed W`, true, func(p *plain, w []string) []string {
		p.c.Seed = mac.Tag("seed", w[0])
		return nil
	}),
	form(`open`, true, (*plain).open),
	form(`join W W`, false, (*plain).join),
	form(`drive W N N(| fire| boost| fire boost| boost fire)`, false, (*plain).drive),
	form(`bye W`, false, (*plain).bye),
	form(`again W W`, false, (*plain).again),
	form(`raw W(?: ((?:[0-9a-fA-F]{2})+))?`, false, func(p *plain, w []string) []string {
		data, _ := hex.DecodeString(w[1])
		return p.sent(w[0], string(data))
	}),
	form(`draw W`, false, func(p *plain, w []string) []string {
		p.s.Do(api.Event{Kind: api.EvDraw, Data: mac.Tag("draw", w[0])})
		return nil
	}),
	form(`tick`, false, func(p *plain, w []string) []string { return p.ticks(1) }),
	form(`tick (0{0,5}[1-9]|0{0,4}[1-9][0-9]|0{0,3}1[0-9][0-9]|0{0,3}200)`, false, func(p *plain, w []string) []string { return p.ticks(integer(w[0])) }),
	form(`cars`, false, func(p *plain, w []string) []string { return plainCars(p.s.State().Cars) }),
	form(`shots`, false, func(p *plain, w []string) (told []string) {
		for _, x := range p.s.State().Shots {
			told = append(told, fmt.Sprintf("shot %d player %d at %d %d left %d", x.Id, x.Player, x.At.X, x.At.Y, x.Left))
		}
		return told
	}),
	form(`lives`, false, func(p *plain, w []string) (told []string) {
		for _, x := range p.s.Lives() {
			told = append(told, fmt.Sprintf("session %d player %d %s from %s heard %d high %d sent %d", x.Session, x.Player, x.Name, x.From, x.Heard, x.High, x.Sent))
		}
		return told
	}),
	form(`counts`, false, func(p *plain, w []string) []string {
		c := p.s.Counts()
		return []string{fmt.Sprintf("hellos %d accepted %d refused %d dropped %d ignored %d", c.Hellos, c.Accepted, c.Refused, c.Dropped, c.Ignored)}
	}),
	form(`ledger`, false, (*plain).ledger),
	form(`view W`, false, (*plain).view),
	form(`judge`, false, (*plain).judge),
	form(`demo N`, false, (*plain).demo),
	form(`board`, false, func(p *plain, w []string) []string {
		b, _ := board.Parse(p.opened.Board)
		return strings.Split(strings.TrimSuffix(b.Print(), "\n"), "\n")
	}),
}

func newPlain() *plain {
	return &plain{c: api.Config{
		Sessions: 4, Output: 64, Rate: 16, Burst: 4, SourceRate: 4, SourceBurst: 4,
		Idle: 20, Life: 30, Radius: 40, Show: 8, Seed: mac.Tag("seed", ""),
	}}
}

func integer(digits string) int {
	n, err := strconv.Atoi(digits)
	if err != nil {
		panic(err)
	}
	return n
}

func plainRefusal(e api.Errno) []string { return []string{fmt.Sprintf("error %d", int(e))} }

func says(line string) bool {
	line = strings.TrimLeft(line, " \t")
	return line != "" && line[0] != '#'
}

// Do tells what a line tells.
func (p *plain) Do(line string) []string {
	if !says(line) {
		return nil
	}
	for _, f := range plainForms {
		if w := f.pattern.FindStringSubmatch(line); w != nil {
			if p.s == nil && !f.bare {
				return plainRefusal(api.ErrConfig)
			}
			p.last = api.OK
			return f.do(p, w[1:])
		}
	}
	return plainRefusal(api.ErrLine)
}

func (p *plain) set(w []string) []string {
	n := integer(w[1])
	switch w[0] {
	case "sessions":
		p.c.Sessions = n
	case "output":
		p.c.Output = n
	case "rate":
		p.c.Rate = n
	case "burst":
		p.c.Burst = n
	case "sourcerate":
		p.c.SourceRate = n
	case "sourceburst":
		p.c.SourceBurst = n
	case "idle":
		p.c.Idle = n
	case "life":
		p.c.Life = n
	case "radius":
		p.c.Radius = n
	case "show":
		p.c.Show = n
	}
	return nil
}

func (p *plain) open(w []string) []string {
	*p = plain{c: p.c, opened: p.c, clients: map[string]*plainClient{}, keys: map[uint64]string{}}
	s, e := server.New(p.c)
	if e != api.OK {
		return plainRefusal(e)
	}
	p.s = s
	return []string{"open"}
}

func (p *plain) send(from, data string) api.Errno {
	_, e := p.s.Do(api.Event{Kind: api.EvData, From: from, Data: data})
	if e != api.OK {
		p.last = e
	}
	for _, l := range p.s.Lives() {
		p.keys[l.Session], _ = p.s.Key(l.Session)
	}
	return e
}

func (p *plain) carry() {
	for range 8 {
		out, _ := p.s.Do(api.Event{Kind: api.EvTake, N: 256})
		if len(out) == 0 {
			return
		}
		for _, x := range out {
			for _, n := range p.order {
				c := p.clients[n]
				if c.source != x.To {
					continue
				}
				if answer, _ := c.Hear(x.Data); answer != "" {
					c.sent = append(c.sent, answer)
					p.send(c.source, answer)
				}
			}
		}
	}
}

// sent tells what comes of a datagram by itself.
func (p *plain) sent(from, data string) []string {
	e := p.send(from, data)
	p.carry()
	if e != api.OK {
		return plainRefusal(e)
	}
	return []string{"ok"}
}

func (p *plain) join(w []string) []string {
	secret := mac.Tag("account", w[0])
	for _, a := range slices.Backward(p.c.Accounts) {
		if name.Same(a.Name, w[0]) {
			secret = a.Secret
		}
	}
	c, e := client.New(api.Account{Name: w[0], Secret: secret}, mac.Tag("nonce", w[0])[:16])
	if e != api.OK {
		return plainRefusal(e)
	}
	if !slices.Contains(p.order, w[0]) {
		p.order = append(p.order, w[0])
	}
	hello, _ := c.Hello()
	p.clients[w[0]] = &plainClient{c, w[1], []string{hello}}
	p.send(w[1], hello)
	p.carry()
	session, player, ok := c.Playing()
	switch {
	case ok:
		return []string{fmt.Sprintf("%s session %d player %d", w[0], session, player)}
	case p.last != api.OK:
		return plainRefusal(p.last)
	}
	return plainRefusal(api.ErrState)
}

func (p *plain) drive(w []string) []string {
	c, ok := p.clients[w[0]]
	if !ok {
		return plainRefusal(api.ErrName)
	}
	data, e := c.Command(api.Command{Throttle: integer(w[1]), Turn: integer(w[2]), Fire: strings.Contains(w[3], "fire"), Boost: strings.Contains(w[3], "boost")})
	if e != api.OK {
		return plainRefusal(e)
	}
	c.sent = append(c.sent, data)
	return p.sent(c.source, data)
}

func (p *plain) bye(w []string) []string {
	c, ok := p.clients[w[0]]
	if !ok {
		return plainRefusal(api.ErrName)
	}
	data, e := c.Bye()
	if e != api.OK {
		return plainRefusal(e)
	}
	c.sent = append(c.sent, data)
	return p.sent(c.source, data)
}

func (p *plain) again(w []string) []string {
	c, ok := p.clients[w[0]]
	if !ok {
		return plainRefusal(api.ErrName)
	}
	return p.sent(w[1], c.sent[len(c.sent)-1])
}

func (p *plain) ticks(n int) []string {
	for range n {
		p.s.Do(api.Event{Kind: api.EvTick})
		p.carry()
	}
	return []string{fmt.Sprintf("tick %d", p.s.State().Tick)}
}

func plainCar(c api.Car) string {
	told := fmt.Sprintf("car %d %s at %d %d heading %d health %d energy %d ammo %d score %d", c.Player, c.Name, c.At.X, c.At.Y, c.Heading, c.Health, c.Energy, c.Ammo, c.Score)
	if c.Wait > 0 {
		told += fmt.Sprintf(" wreck %d", c.Wait)
	}
	return told
}

func plainCars(l []api.Car) (told []string) {
	for _, c := range l {
		told = append(told, plainCar(c))
	}
	return told
}

func (p *plain) ledger(w []string) []string {
	n := map[int]int{}
	l := p.s.Ledger()
	for _, x := range l {
		n[x.Kind]++
	}
	return []string{fmt.Sprintf("entries %d joins %d leaves %d ticks %d commands %d", len(l), n[1], n[2], n[3], n[4])}
}

func (p *plain) view(w []string) []string {
	c, ok := p.clients[w[0]]
	if !ok {
		return plainRefusal(api.ErrName)
	}
	v, ok := c.View()
	if !ok {
		return plainRefusal(api.ErrState)
	}
	told := []string{fmt.Sprintf("tick %d", v.Tick), plainCar(v.Own)}
	for _, x := range v.Seen {
		switch x.Kind {
		case api.SeenCar:
			told = append(told, fmt.Sprintf("sees car %d at %d %d heading %d", x.Id, x.At.X, x.At.Y, x.Heading))
		case api.SeenShot:
			told = append(told, fmt.Sprintf("sees shot %d at %d %d", x.Id, x.At.X, x.At.Y))
		}
	}
	return told
}

func (p *plain) judge(w []string) []string {
	f, is := referee.Judge(p.opened, func(n uint64) (string, bool) {
		key, ok := p.keys[n]
		return key, ok
	}, p.s.Ledger())
	if is {
		return []string{fmt.Sprintf("entry %d error %d", f.Entry, int(f.Code))}
	}
	return []string{"clean"}
}

func (p *plain) demo(w []string) []string {
	n := integer(w[0])
	labels, _ := book.Labels(p.s.Ledger())
	b, _ := board.Parse(p.opened.Board)
	d, _ := demo.Record(b, labels)
	if n < 0 || uint64(n) > d.Ticks() {
		return plainRefusal(api.ErrSeek)
	}
	s, _ := d.Seek(uint64(n))
	return append([]string{fmt.Sprintf("tick %d", s.Tick)}, plainCars(s.Cars)...)
}
