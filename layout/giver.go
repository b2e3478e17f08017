package layout

import "prologue/api"

// giver of places. given: how many of Args were given out, or left out (with Pairs this may be one more than there are); cells, copies: where the next cell and the next copy stand.
type giver struct {
	t             api.Table
	given         int
	cells, copies int
}

func (g *giver) argument(words int) api.Spot {
	if words > g.t.ByRef {
		return api.Spot{Places: []api.Place{g.word()}, Ref: true, At: g.nextCopy(words)}
	}
	if words > 0 {
		return api.Spot{Places: g.block(words)}
	}
	return api.Spot{Places: []api.Place{g.word()}}
}

func (g *giver) word() api.Place {
	if g.given >= len(g.t.Args) {
		return g.nextCell()
	}
	r := g.t.Args[g.given]
	g.given++
	return api.Place{Reg: r}
}

func (g *giver) nextCell() api.Place {
	at := g.cells
	g.cells += 8
	return api.Place{Reg: -1, At: at}
}

func (g *giver) nextCopy(words int) int {
	at := g.copies
	g.copies += 8 * words
	return at
}

// block: if one finds too few registers, all of them count as given out, so that it and all that comes behind it go into cells.
func (g *giver) block(words int) []api.Place {
	if g.t.Pairs && words >= 2 && g.given%2 == 1 {
		g.given++
	}
	if len(g.t.Args)-g.given < words {
		g.given = len(g.t.Args)
	}
	places := make([]api.Place, words)
	for k := range places {
		places[k] = g.word()
	}
	return places
}

func (g *giver) results(count int) []api.Place {
	places := make([]api.Place, count)
	for k := range places {
		if k < len(g.t.Results) {
			places[k] = api.Place{Reg: g.t.Results[k]}
		} else {
			places[k] = g.nextCell()
		}
	}
	return places
}
