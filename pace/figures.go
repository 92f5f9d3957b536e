package pace

import "scree/api"

// figures: what the formulas reckon with, of a configuration.
type figures struct {
	clients, compactors         number
	memBytes, maxImm            number
	levels, base, mult          number
	fileBytes, fan              number
	maxChunk, rate, slowRate    number
	maxGroup, maxDebt, debtStop number
	maxManifest                 number
}

func figuresOf(c api.Config) figures {
	return figures{
		clients:     number(c.Clients),
		compactors:  number(c.Compactors),
		memBytes:    number(c.MemBytes),
		maxImm:      number(c.MaxImm),
		levels:      number(c.Levels),
		base:        number(c.Base),
		mult:        number(c.Mult),
		fileBytes:   number(c.FileBytes),
		fan:         number(c.Fan),
		maxChunk:    number(c.MaxChunk),
		rate:        number(c.Rate),
		slowRate:    number(c.SlowRate),
		maxGroup:    number(c.MaxGroup),
		maxDebt:     number(c.MaxDebt),
		debtStop:    number(c.DebtStop),
		maxManifest: number(c.MaxManifest),
	}
}

// The formulas have the names of the document's, and stand as they stand there.

// limit tells 0 of level 0, of the last one, and of what is no level.
func (f figures) limit(level number) number {
	if level < 1 || level > f.levels-2 {
		return 0
	}
	l := f.base
	for range level - 1 {
		l = l.times(f.mult)
	}
	return l
}

func (f figures) limitSum() number {
	var s number
	for level := range f.levels {
		s = s.plus(f.limit(level))
	}
	return s
}

func (f figures) memCap() number { return (f.memBytes - 1).plus(max(f.maxGroup, api.MaxBatch)) }

func (f figures) fileCap() number { return (f.fileBytes - 1).plus(api.MaxEntry) }

func (f figures) j() number { return f.fan.plus(1).times(f.fileCap()) }

func (f figures) debtCap() number { return (f.debtStop - 1).plus(f.maxDebt) }

func (f figures) d(d number) number {
	return min(sum(d, f.maxDebt, (f.clients-1).times(api.MaxBatch)), f.debtCap())
}

func (f figures) g() number { return f.compactors.times((f.maxChunk / f.rate).plus(3)) }

func (f figures) tf(x number) number {
	return number(2).times((x / f.maxChunk).plus(2)).plus(16)
}

func (f figures) tc(x number) number {
	chunks, files := x/f.maxChunk, x/f.fileBytes
	return sum(chunks, 2, sum(chunks, files, 3).times(f.g()), number(2).times(files.plus(3)), 16)
}

func (f figures) y(d number) number { return f.limitSum().plus(f.d(d)) }

func (f figures) t0(d number) number {
	return sum(number(2).times(f.tc(f.j())), number(2).times(f.tc(f.y(d))), 16)
}

func (f figures) q() number { return sum(f.maxDebt/f.memBytes, f.maxImm, 2) }

// entries tells how many entries of a weight there are at most, each of them in each level, and 2.
func (f figures) entries(weight number) number {
	return (f.levels.times(weight) / api.MinEntry).plus(2)
}

func (f figures) td(d number) number {
	y := f.y(d)
	return f.entries(y).times(sum(f.tc(y), f.tc(f.j()), f.tf(f.memCap()), 8))
}

func (f figures) b1(d number) number {
	t0 := f.t0(d)
	one := sum(
		f.q().plus(2).times(t0.plus(2)),
		f.td(d),
		f.maxImm.plus(1).times(sum(t0, f.tf(f.memCap()), 2)),
		api.MaxBatch/f.slowRate,
		number(18).times(f.clients),
		24,
	)
	return f.clients.times(one)
}

func (f figures) n(n number) number { return sum(n, f.maxDebt, f.clients.times(api.MaxBatch)) }

func (f figures) b2(n number) number {
	all := f.n(n)
	return sum(
		f.b1(n),
		f.maxImm.plus(2).times(sum(f.tf(f.memCap()), f.tc(all), f.tc(f.j()), 8)),
		f.entries(all).times(sum(f.tc(all), f.tc(f.j()), 2)),
		all/f.maxChunk,
		f.levels,
		40,
	)
}

func (f figures) a(x, y number) number {
	return sum(
		number(4).times(x),
		y,
		number(16).times(f.limitSum().plus(f.debtCap())),
		f.maxImm.plus(4).times(f.memCap()),
		number(2).times(f.maxManifest),
		131072,
	)
}
