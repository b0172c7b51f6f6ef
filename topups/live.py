"""Live pots: pots that are topped up call by call, and whose calls can be undone."""

from topups.basics import MOST_LIQUIDS, check_index, check_kept, check_liquid, check_number, check_row
from topups.contents import pure_content
from topups.errors import NothingToUndo
from topups.histories import histories_along
from topups.strengths import strength_of
from topups.topping import contents_by


class Pot:
    """A pot that is pure at first."""

    def __init__(self, count, start, kept):
        check_number(count, 1, MOST_LIQUIDS)
        check_liquid(start, count)
        check_kept(kept)
        self._start = start
        self._kept = kept
        self._content = pure_content(count, start)
        self._past = []
        # What was before each call. No list in it is ever changed, so a twin may share it.
        self._before = []

    @property
    def liquids(self):
        """How many liquids there are."""
        return len(self._content)

    @property
    def start(self):
        """The liquid of which the pot was full at first."""
        return self._start

    @property
    def kept(self):
        """The kept share now."""
        return self._kept

    @property
    def content(self):
        """The content now."""
        return list(self._content)

    @property
    def past(self):
        """All top-ups, as tuples (liquid, kept share)."""
        return list(self._past)

    def top_up(self, liquid):
        """A top-up with one liquid."""
        check_liquid(liquid, self.liquids)
        self._pour_all([liquid])

    def pour(self, row):
        """A top-up with each liquid of a row, as one call."""
        check_row(row, self.liquids)
        self._pour_all(row)

    def keep(self, kept):
        """This kept share from now on."""
        check_kept(kept)
        self._go_on(kept, self._content, self._past)

    def undo(self):
        """Undoes the last call that is not undone."""
        if len(self._before) == 0:
            raise NothingToUndo("there is no call that can be undone")
        self._kept, self._content, self._past = self._before.pop()

    def mark(self):
        """How many calls can be undone."""
        return len(self._before)

    def undo_to(self, index):
        """Undoes calls until so many are left."""
        check_index(index, len(self._before))
        while len(self._before) > index:
            self.undo()

    def twin(self):
        """An independent copy."""
        other = Pot(self.liquids, self._start, self._kept)
        other._content = self._content
        other._past = self._past
        other._before = list(self._before)
        return other

    def histories(self):
        """All histories whose top-ups have the kept shares of the past, ascending."""
        return histories_along(self._content, [kept for _, kept in self._past])

    def strength(self, strengths):
        """The strength of the content, as a fraction."""
        return strength_of(self._content, strengths)

    def __len__(self):
        return len(self._before)

    def _pour_all(self, row):
        keeps = [self._kept] * len(row)
        content = contents_by(self._content, keeps, row)[-1]
        self._go_on(self._kept, content, self._past + list(zip(row, keeps)))

    def _go_on(self, kept, content, past):
        self._before.append((self._kept, self._content, self._past))
        self._kept, self._content, self._past = kept, content, past
