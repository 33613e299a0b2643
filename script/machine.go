package script

import (
	"bytes"

	"lightclient/api"
	"lightclient/sha"
	"lightclient/sign"
	"lightclient/wide"
)

// What becomes of the operations behind an OpIf or OpElse.
const (
	branchDone    = iota // they are done
	branchSkipped        // they are skipped, but those of the other branch are not
	branchDead           // they are skipped like all that surrounds them
)

const (
	stepCost = 1  // cost of each operation
	hashCost = 5  // what OpHash costs more
	signCost = 20 // what each signature costs more
)

// machine carries out the operations of a script on a stack. Run has made sure that they are nested, so that an OpElse or OpEnd always finds the branch of its OpIf.
type machine struct {
	api.Env
	stack    [][]byte
	cost     int
	branches []int // one for each open OpIf
}

// branch returns what becomes of the operations at this place.
func (m *machine) branch() int {
	if len(m.branches) == 0 {
		return branchDone
	}
	return m.branches[len(m.branches)-1]
}

// reaches reports whether an operation is done and counted at this place.
func (m *machine) reaches(code int) bool {
	switch m.branch() {
	case branchDone:
		return true
	case branchSkipped:
		return code == api.OpElse || code == api.OpEnd
	}
	return false
}

// step carries out the operation o, or skips it.
func (m *machine) step(o api.Op) api.Errno {
	if !m.reaches(o.Code) {
		m.skip(o.Code)
		return api.OK
	}
	m.cost += price(o)
	if m.cost > api.MaxCost {
		return api.ErrCost
	}
	if len(m.stack) < needed(o) {
		return api.ErrStack
	}
	return m.perform(o)
}

// skip keeps the branches right behind an operation that is skipped.
func (m *machine) skip(code int) {
	switch code {
	case api.OpIf:
		m.branches = append(m.branches, branchDead)
	case api.OpEnd:
		m.closeBranch()
	}
}

// price returns the cost of the operation o.
func price(o api.Op) int {
	switch o.Code {
	case api.OpHash:
		return stepCost + hashCost
	case api.OpSig:
		return stepCost + signCost
	case api.OpMulti:
		return stepCost + signCost*o.N
	}
	return stepCost
}

// needed returns how many items the operation o needs on the stack.
func needed(o api.Op) int {
	switch o.Code {
	case api.OpPush, api.OpElse, api.OpEnd, api.OpFail:
		return 0
	case api.OpSwap, api.OpEqual, api.OpSig:
		return 2
	case api.OpMulti:
		return 2 * o.N
	}
	return 1
}

// perform carries out the operation o, for which there are enough items.
func (m *machine) perform(o api.Op) api.Errno {
	switch o.Code {
	case api.OpPush:
		return m.push(o.Data)
	case api.OpDup:
		return m.push(m.top())
	case api.OpDrop:
		m.pop()
	case api.OpSwap:
		m.swap()
	case api.OpEqual:
		m.answer(bytes.Equal(m.pop(), m.pop()))
	case api.OpNot:
		m.answer(!truth(m.pop()))
	case api.OpHash:
		h := sha.Sum(m.pop())
		return m.push(h[:])
	case api.OpSize:
		return m.push(Item(uint32(len(m.top()))))
	case api.OpSig:
		return m.checkSignatures(1, 1)
	case api.OpMulti:
		return m.checkSignatures(o.M, o.N)
	case api.OpAfter:
		return opened(m.top(), m.Height)
	case api.OpOlder:
		return opened(m.top(), m.Age)
	case api.OpIf:
		m.openBranch(truth(m.pop()))
	case api.OpElse:
		m.turnBranch()
	case api.OpEnd:
		m.closeBranch()
	case api.OpVerify:
		if !truth(m.pop()) {
			return api.ErrFalse
		}
	case api.OpFail:
		return api.ErrFalse
	}
	return api.OK
}

// top returns the topmost item.
func (m *machine) top() []byte { return m.stack[len(m.stack)-1] }

// push puts an item on the stack.
func (m *machine) push(item []byte) api.Errno {
	if len(m.stack) >= api.MaxStack {
		return api.ErrLimit
	}
	m.stack = append(m.stack, item)
	return api.OK
}

// pop removes the topmost item.
func (m *machine) pop() []byte {
	item := m.top()
	m.stack = m.stack[:len(m.stack)-1]
	return item
}

// swap exchanges the two topmost items.
func (m *machine) swap() {
	upper, lower := m.pop(), m.pop()
	m.stack = append(m.stack, upper, lower)
}

// answer puts on the stack whether something is so; an item has been removed before, so that there is a place for it.
func (m *machine) answer(yes bool) {
	var n uint32
	if yes {
		n = 1
	}
	m.stack = append(m.stack, Item(n))
}

// openBranch begins the branches of an OpIf.
func (m *machine) openBranch(yes bool) {
	if yes {
		m.branches = append(m.branches, branchDone)
	} else {
		m.branches = append(m.branches, branchSkipped)
	}
}

// turnBranch goes on with the other branch, which is done if the first one was skipped.
func (m *machine) turnBranch() {
	yes := m.branch() == branchSkipped
	m.closeBranch()
	m.openBranch(yes)
}

// closeBranch ends the branches of an OpIf.
func (m *machine) closeBranch() { m.branches = m.branches[:len(m.branches)-1] }

// checkSignatures removes n keys and their n signatures, and answers whether at least least of them have signed.
func (m *machine) checkSignatures(least, n int) api.Errno {
	bottom := len(m.stack) - 2*n
	signatures, keys := m.stack[bottom:bottom+n], m.stack[bottom+n:]
	signed := 0
	for i, key := range keys {
		if e := m.check(key, signatures[i]); e != api.OK {
			return e
		}
		if len(signatures[i]) > 0 {
			signed++
		}
	}
	m.stack = m.stack[:bottom]
	m.answer(signed >= least)
	return api.OK
}

// check returns what is wrong with a key and its signature, which may be empty.
func (m *machine) check(key, signature []byte) api.Errno {
	if len(key) != keyBytes {
		return api.ErrKey
	}
	p := wide.FromBytes(api.Hash(key))
	if !sign.Valid(p) {
		return api.ErrKey
	}
	if len(signature) == 0 {
		return api.OK
	}
	s, e := sign.Decode(signature)
	if e != api.OK || !sign.Verify(p, m.Message, s) {
		return api.ErrSignature
	}
	return api.OK
}

// opened returns why a lock is not open: its number is the least height or age for it.
func opened(item []byte, at int) api.Errno {
	n, e := Number(item)
	if e != api.OK {
		return e
	}
	// An int may have 32 bits.
	if int64(n) > int64(at) {
		return api.ErrLock
	}
	return api.OK
}
