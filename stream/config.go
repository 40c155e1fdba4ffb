package stream

import (
	"math"

	"headrace/api"
	"headrace/column"
	"headrace/window"
)

// Config: a config behind other bytes. ReadConfig: the next one.
func Config(p []byte, c api.Config) []byte {
	p = append(p, c.Kind)
	p = column.Int(p, c.Size)
	p = column.Int(p, c.Step)
	p = column.Int(p, c.Late)
	p = column.Int(p, c.Skew)
	p = column.Int(p, int64(c.Parts))
	return column.Uint(p, c.Cut)
}

func ReadConfig(r *column.Reader) api.Config {
	var c api.Config
	c.Kind = r.Byte()
	c.Size = r.Int()
	c.Step = r.Int()
	c.Late = r.Int()
	c.Skew = r.Int()
	parts := r.Int()
	c.Parts = int(parts)
	c.Cut = r.Uint(math.MaxUint64)
	// Where an int has 32 bits, so many partitions may be too many for one.
	r.Check(window.Form(c) && int64(c.Parts) == parts)
	return c
}
