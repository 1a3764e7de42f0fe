package image

// What the sum is reckoned with: what it begins as, and what it is multiplied by at each byte.
const (
	sumStart  uint64 = 14695981039346656037
	sumFactor uint64 = 1099511628211
	sumBytes         = 8
)

// sumOf is the sum of the bytes as it stands behind them. No step of it makes two sums alike that were not, so one changed byte always shows.
func sumOf(b []byte) [sumBytes]byte {
	sum := sumStart
	for _, c := range b {
		sum = (sum ^ uint64(c)) * sumFactor
	}
	var lowestFirst [sumBytes]byte
	for k := range lowestFirst {
		lowestFirst[k] = byte(sum >> (8 * k))
	}
	return lowestFirst
}
