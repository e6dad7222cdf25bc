"""Caches that are used live."""

from scanmisses.checks import check_from, check_operations, check_size
from scanmisses.errors import Nothing, TooManyMisses
from scanmisses.lists import place_of
from scanmisses.live import state_behind
from scanmisses.scans import count_all


class Buffer:
    """A cache that keeps the addresses that were read last, at first none."""

    def __init__(self, size):
        check_size(size)
        self._state = (size, [], 0, 0)
        # The calls, and what the cache was like ahead of each of them.
        self._calls = []
        self._past = []

    @property
    def size(self):
        """How many addresses it can keep."""
        return self._state[0]

    @property
    def resident(self):
        """The tidy list of the kept addresses, the latest one first."""
        return list(self._state[1])

    @property
    def accesses(self):
        """The number of all accesses so far."""
        return self._state[2]

    @property
    def misses(self):
        """The number of all misses so far."""
        return self._state[3]

    @property
    def kept(self):
        """The number of kept addresses."""
        return count_all(self._state[1])

    def __eq__(self, other):
        if not isinstance(other, Buffer) or isinstance(other, BudgetBuffer):
            return False
        return self.size == other.size and self.resident == other.resident

    def place(self, address):
        """The place of an address in resident, or None."""
        return place_of(self.resident, address)

    def play(self, program):
        """Performs a program; returns the number of its misses."""
        before = self.misses
        self._perform(("play", program))
        return self.misses - before

    def resize(self, size):
        """Gives the cache another size; returns how many addresses are not kept any more."""
        before = self.kept
        self._perform(("resize", size))
        return before - self.kept

    def drop(self, low, high):
        """Takes the addresses from low to high away; returns how many are not kept any more."""
        before = self.kept
        self._perform(("drop", low, high))
        return before - self.kept

    def undo(self):
        """Takes back the last call of play, resize or drop that is not taken back."""
        if not self._calls:
            raise Nothing("there is no call to take back")
        self._calls.pop()
        self._state = self._past.pop()

    def log(self):
        """The list of the calls that are not taken back."""
        return list(self._calls)

    def preview(self, *operations):
        """The number of misses of calls, performed one after another; the buffer stays as it is."""
        return self._foresee(operations)

    def _behind(self, state, operation):
        """What the cache would be like behind a call."""
        return state_behind(state, operation)

    def _foresee(self, operations):
        """The number of misses of a tuple of calls."""
        check_operations(operations)
        state = self._state
        for operation in operations:
            state = self._behind(state, operation)
        return state[3] - self.misses

    def _perform(self, operation):
        """Performs a call; nothing changes if it raises an error."""
        state = self._behind(self._state, operation)
        self._past.append(self._state)
        self._calls.append(operation)
        self._state = state


class BudgetBuffer(Buffer):
    """A buffer with a greatest number of misses.

    Each method of the interface stands in this class itself, also one that does the same as that of a Buffer.
    """

    def __init__(self, size, most):
        super().__init__(size)
        check_from(most, 0)
        self.most = most

    def __eq__(self, other):
        if not isinstance(other, BudgetBuffer):
            return False
        return self.size == other.size and self.resident == other.resident and self.most == other.most

    def place(self, address):
        """The place of an address in resident, or None."""
        return super().place(address)

    def play(self, program):
        """Performs a program, if all misses are not more than most then; returns the number of its misses."""
        return super().play(program)

    def resize(self, size):
        """Gives the cache another size; returns how many addresses are not kept any more."""
        return super().resize(size)

    def drop(self, low, high):
        """Takes the addresses from low to high away; returns how many are not kept any more."""
        return super().drop(low, high)

    def undo(self):
        """Takes back the last call of play, resize or drop that is not taken back."""
        super().undo()

    def log(self):
        """The list of the calls that are not taken back."""
        return super().log()

    def preview(self, *operations):
        """The number of misses of calls, performed one after another; the buffer stays as it is."""
        return self._foresee(operations)

    def _behind(self, state, operation):
        """What the cache would be like behind a call; an error if there were too many misses."""
        after = state_behind(state, operation)
        if after[3] > self.most:
            raise TooManyMisses(after[3])
        return after
