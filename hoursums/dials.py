"""Dials: hours on a clock that change step by step, keep promises, and can be taken back."""

from hoursums.checks import is_integer
from hoursums.errors import Broken, InvalidIndex, NothingToUndo
from hoursums.hours import Hours, check_other


class Attempt:
    """Rows of a `with` statement after whose error the dial is again as it was before them."""

    def __init__(self, dial):
        self._dial = dial
        self._state = None
        self._past = []

    def __enter__(self):
        self._state = self._dial._state
        # A copy, because undo may take back, and others then replace, what was done before the rows.
        self._past = list(self._dial._past)
        return self._dial

    def __exit__(self, kind, value, trace):
        dial = self._dial
        if kind is not None:
            dial._state = self._state
            dial._past = self._past


class Dial:
    """A set of hours on a clock, at first the hour 0 alone, that stays within its promises."""

    def __init__(self, clock):
        # Hours and promises stand together: undo and attempts never bring back one without the other.
        self._state = (Hours(clock, (0,)), ())
        self._past = []

    @property
    def clock(self):
        """The number of hours of the clock."""
        return self.now.clock

    @property
    def now(self):
        """The set of its hours."""
        return self._state[0]

    @property
    def promises(self):
        """The sets that its hours stay within, in the order in which they were promised."""
        return self._state[1]

    @property
    def changes(self):
        """The number of changes that can be taken back."""
        return len(self._past)

    def add(self, one):
        """Its hours become the sums of them and those of the set."""
        self._turn(self.now + one)

    def keep(self, one):
        """Its hours become those that are also in the set."""
        self._change(self.now & one, self.promises)

    def move(self, by):
        """Each of its hours is moved by so many hours."""
        self._turn(self.now.moved(by))

    def promise(self, one):
        """From now on its hours stay within the set."""
        check_other(self.clock, one)
        promises = self.promises + (one,)
        check_kept(promises, self.now)
        self._change(self.now, promises)

    def lift(self, index):
        """The promise with this index goes."""
        promises = self.promises
        check_index(len(promises), index)
        self._change(self.now, promises[:index] + promises[index + 1:])

    def undo(self):
        """Takes the last change back."""
        if not self._past:
            raise NothingToUndo()
        self._state = self._past.pop()

    def attempt(self):
        """An object for one `with` statement: if its rows end with an error, all that they did is taken back."""
        return Attempt(self)

    def tried(self, act):
        """What the function returns, called with the dial in the rows of an attempt."""
        with self.attempt() as dial:
            return act(dial)

    def __len__(self):
        return len(self.now)

    def __bool__(self):
        # Without this a dial without hours would be false by its length.
        return True

    def __eq__(self, other):
        return isinstance(other, Dial) and self is other

    def _turn(self, hours):
        """The change to these hours, if they keep the promises."""
        check_kept(self.promises, hours)
        self._change(hours, self.promises)

    def _change(self, hours, promises):
        self._past.append(self._state)
        self._state = (hours, promises)


def check_index(many, index):
    if not is_integer(index) or not 0 <= index < many:
        raise InvalidIndex(index)


def check_kept(promises, hours):
    for index, one in enumerate(promises):
        if (hours & one) != hours:
            raise Broken(index)
