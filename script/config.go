package script

import (
	"scree/api"
	"scree/pace"
)

// fieldReader: a reader of a configuration's fields.
type fieldReader struct {
	reader
	numbers []piece // what stands where the fields' numbers are wanted, in their order
}

// Config reads a configuration.
func Config(text string) (api.Config, error) {
	if len(text) > api.MaxConfigText {
		return api.Config{}, tooLong()
	}
	r := fieldReader{reader: reader{left: asOneLine(split(text))}}
	c := r.config()
	if err := r.end(); err != nil {
		return api.Config{}, err
	}
	if place, err := pace.Check(c); err != api.OK {
		return api.Config{}, r.numbers[place].misread(err)
	}
	return c, nil
}

// asOneLine puts lines together: no line ends but the last one.
func asOneLine(lines [][]piece) []piece {
	var all []piece
	for _, l := range lines {
		all = append(all, l[:len(l)-1]...)
	}
	return append(all, textEnd(lines))
}

// config reads all fields. Go calls what stands in a literal from the left, so their order here is that of the text.
func (r *fieldReader) config() api.Config {
	return api.Config{
		Clients:     r.field("clients"),
		Flushers:    r.field("flushers"),
		Compactors:  r.field("compactors"),
		MemBytes:    r.field("memory"),
		MaxImm:      r.field("frozen"),
		L0Trigger:   r.field("trigger"),
		L0Slow:      r.field("slow"),
		L0Stop:      r.field("stop"),
		Levels:      r.field("levels"),
		Base:        r.field("base"),
		Mult:        r.field("mult"),
		FileBytes:   r.field("file"),
		Fan:         r.field("fan"),
		BlockBytes:  r.field("block"),
		Restart:     r.field("restart"),
		BloomBits:   r.field("bloom"),
		MaxChunk:    r.field("chunk"),
		Rate:        r.field("rate"),
		Burst:       r.field("burst"),
		SlowRate:    r.field("slowrate"),
		SlowBurst:   r.field("slowburst"),
		MaxGroup:    r.field("group"),
		MaxDebt:     r.field("debt"),
		DebtStop:    r.field("debtstop"),
		Snapshots:   r.field("snapshots"),
		ScanLimit:   r.field("scan"),
		MaxManifest: r.field("manifest"),
	}
}

// field wants a field's word and its number.
func (r *fieldReader) field(name string) int {
	r.word(name)
	r.numbers = append(r.numbers, r.left[0])
	return r.numberOf(0, mostNumber)
}
