package table

import (
	"math"

	"milestone/api"
	"milestone/coin"
	"milestone/prefix"
)

// Ahead of a route stands the number of its neighbor, from firstVia on; where it would stand, noRoute tells that there is none.
const (
	noRoute  = 0
	firstVia = 1
)

// Encode: a table as bytes.
func (t *Table) Encode() []byte {
	if t == nil {
		return nil
	}
	p := putAll(t.no, t.time, uint64(len(t.rows)))
	for _, row := range t.rows {
		p = append(p, putRow(row)...)
	}
	return p
}

// putRow is a row as bytes.
func putRow(row api.Row) []byte {
	p := putAll(uint64(row.P.Addr), uint64(row.P.Len), uint64(row.M.Seq), uint64(row.M.Metric))
	if !row.Has {
		return append(p, putAll(noRoute)...)
	}
	return append(p, putAll(uint64(row.R.Via)+firstVia, uint64(row.R.Metric), uint64(row.R.Seq))...)
}

// putAll is some numbers as bytes, one behind the other.
func putAll(l ...uint64) []byte {
	var p []byte
	for _, n := range l {
		p = coin.Put(p, n)
	}
	return p
}

// Decode: and back. ErrForm, ErrShort, ErrLong: Encode makes these of none.
// Of a row no more is asked than that its prefix may be, and stands behind the one ahead, and that its metrics are none of no way.
func Decode(p []byte) (*Table, api.Errno) {
	x := coin.NewPurse(p)
	t := New()
	t.no = x.Take(math.MaxUint64)
	t.time = x.Take(math.MaxUint64)
	// As many rows as are told there need not be: the first fault ends them.
	for n := x.Take(math.MaxUint64); n > 0 && x.Fault() == api.OK; n-- {
		t.rows = append(t.rows, takeRow(x))
	}
	if e := x.End(); e != api.OK {
		return nil, e
	}
	if !rightAndRising(t.rows) {
		return nil, api.ErrForm
	}
	return t, api.OK
}

// takeRow takes a row out of a purse.
func takeRow(x *coin.Purse) api.Row {
	var row api.Row
	row.P.Addr = uint32(x.Take(math.MaxUint32))
	row.P.Len = uint8(x.Take(math.MaxUint8))
	row.M.Seq = takeSerial(x)
	row.M.Metric = takeMetric(x)
	row.R.P = row.P
	via := x.Take(math.MaxInt + firstVia)
	if via == noRoute {
		return row
	}
	row.Has = true
	row.R.Via = int(via - firstVia)
	row.R.Metric = takeMetric(x)
	row.R.Seq = takeSerial(x)
	return row
}

// takeSerial takes a serial out of a purse.
func takeSerial(x *coin.Purse) uint16 {
	return uint16(x.Take(math.MaxUint16))
}

// takeMetric takes a metric of some way out of a purse.
func takeMetric(x *coin.Purse) uint16 {
	return uint16(x.Take(api.Endless - 1))
}

// rightAndRising: may the prefixes of rows be, and does each stand behind the one ahead?
func rightAndRising(rows []api.Row) bool {
	for i, row := range rows {
		if !prefix.Right(row.P) {
			return false
		}
		if i > 0 && prefix.Compare(rows[i-1].P, row.P) >= 0 {
			return false
		}
	}
	return true
}
