package expr

// anyNumber is of operators that take however many arguments.
const anyNumber = -1

// operatorOf answers what is done with an operator's arguments, and how many it has; nil of a name that is none.
func operatorOf(name string) (operator, int) {
	switch name {
	case "$add":
		return call.add, anyNumber
	case "$multiply":
		return call.multiply, anyNumber
	case "$subtract":
		return call.subtract, 2
	case "$divide":
		return call.divide, 2
	case "$mod":
		return call.mod, 2
	case "$abs":
		return call.abs, 1
	case "$eq":
		return call.eq, 2
	case "$ne":
		return call.ne, 2
	case "$gt":
		return call.gt, 2
	case "$gte":
		return call.gte, 2
	case "$lt":
		return call.lt, 2
	case "$lte":
		return call.lte, 2
	case "$cmp":
		return call.cmp, 2
	case "$and":
		return call.and, anyNumber
	case "$or":
		return call.or, anyNumber
	case "$not":
		return call.not, 1
	case "$cond":
		return call.cond, 3
	case "$ifNull":
		return call.ifNull, 2
	case "$concat":
		return call.concat, anyNumber
	case "$size":
		return call.size, 1
	case "$arrayElemAt":
		return call.arrayElemAt, 2
	case "$type":
		return call.kind, 1
	}
	return nil, 0
}
