package pace

import "scree/api"

// field: what a field of a configuration is, and what it may be.
type field struct{ is, least, most int }

// Check tells the first field of a configuration that isn't right, by its place, from 0 on.
func Check(c api.Config) (int, api.Errno) {
	for place, f := range fields(c) {
		if f.is < f.least || f.is > f.most {
			return place, api.ErrConfig
		}
	}
	return 0, api.OK
}

// fields tells all fields, in their order. A bound that hangs on other fields hangs on earlier ones alone: it is right wherever it is asked for, and may be anything behind a field that isn't.
func fields(c api.Config) []field {
	return []field{
		{c.Clients, 1, api.MaxClients},
		{c.Flushers, 1, api.MaxFlushers},
		{c.Compactors, 1, api.MaxCompactors},
		{c.MemBytes, 4096, 1 << 20},
		{c.MaxImm, 1, 4},
		{c.L0Trigger, 1, 16},
		{c.L0Slow, c.L0Trigger, 16},
		{c.L0Stop, max(c.L0Slow, c.Flushers+1), 16},
		{c.Levels, 3, api.MaxLevels},
		{c.Base, 4096, 1 << 24},
		{c.Mult, 2, 10},
		{c.FileBytes, 2048, 1 << 20},
		{c.Fan, 1, 16},
		{c.BlockBytes, 64, 4096},
		{c.Restart, 1, 16},
		{c.BloomBits, 0, 16},
		{c.MaxChunk, api.MaxEntry, 1 << 16},
		{c.Rate, 1, 1 << 30},
		{c.Burst, c.MaxChunk, 1 << 30},
		{c.SlowRate, 1, 1 << 30},
		{c.SlowBurst, api.MaxBatch, 1 << 30},
		{c.MaxGroup, api.MaxEntry, 1 << 20},
		{c.MaxDebt, api.MaxBatch, 1 << 24},
		{c.DebtStop, leastDebtStop(c), 1 << 30},
		{c.Snapshots, 0, api.MaxSnapshots},
		{c.ScanLimit, 1, api.MaxScan},
		{c.MaxManifest, 4096, 1 << 20},
	}
}

// leastDebtStop tells the least DebtStop at which what may lie in memtables and in a level 0 below its trigger doesn't stop a write by itself.
func leastDebtStop(c api.Config) int {
	f := figuresOf(c)
	return int(sum(number(c.L0Trigger), f.maxImm, 2).times(f.memCap()).plus(1))
}
