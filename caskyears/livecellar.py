"""Living cellars: cellars that are worked on, with their past, of which steps are taken back."""

from caskyears.anew import built_anew
from caskyears.deeds import check_cask, has_casks, is_deed
from caskyears.errors import BadWeather, InvalidDeed, NoBlock, Nothing, Unlike
from caskyears.fills import check_cellar, check_kind
from caskyears.fractions import is_share
from caskyears.stocks import behind_entry, fill_at, fills_in, gone_by, live_stock, part_at, shares_at
from caskyears.traces import check_deeds_of
from caskyears.yearly import check_yearly


class Cellar:
    """A cellar that is worked on, with its past."""

    def __init__(self, fills):
        check_cellar(fills)
        self._first = fills
        self._stock = live_stock(fills)
        self._entries = []
        self._steps = []
        self._blocks = []

    def do(self, deed):
        """Do a deed; return the fill that left by a draw or a keep, () otherwise."""
        if not is_deed(deed) or not has_casks(deed, len(self._first)):
            raise InvalidDeed(built_anew(deed))
        gone = gone_by(self._stock, deed)
        self.work(deed)
        return gone

    def do_all(self, deeds):
        """Do a tuple of deeds as one step; return the tuple of what left by each."""
        check_deeds_of(deeds, len(self._first))
        stock, gone = self._stock, []
        for deed in deeds:
            gone.append(gone_by(stock, deed))
            stock = behind_entry(stock, deed)
        self.step("all", deeds, stock)
        return tuple(gone)

    def year(self, yearly, kind):
        """Do one year of a yearly cellar; return the tuple of the fills that were drawn, one for each cask."""
        check_yearly(yearly)
        if len(yearly[0]) != len(self._first):
            raise Unlike(len(yearly[0]))
        check_kind(kind)
        drawn = [part_at(self._stock, cask, share) for cask, share in enumerate(yearly[2])]
        self.work(("year", yearly, kind))
        return tuple(drawn)

    def season(self, kept):
        """Let only these shares stay in the casks."""
        if not are_shares(kept, len(self._first)):
            raise BadWeather(built_anew(kept))
        self.work(("season", kept))

    def undo(self):
        """Take back the last step; return its word."""
        if len(self._steps) == (self._blocks[-1] if self._blocks else 0):
            raise Nothing(None)
        word = self._steps[-1][0]
        self.back_to(len(self._steps) - 1)
        return word

    def begin(self):
        """Open a block."""
        self._blocks.append(len(self._steps))

    def keep(self):
        """End the innermost block; its steps stay in what is around it."""
        if not self._blocks:
            raise NoBlock(None)
        self._blocks.pop()

    def drop(self):
        """End the innermost block and take its steps back."""
        if not self._blocks:
            raise NoBlock(None)
        self.back_to(self._blocks.pop())

    def twin(self):
        """Return a cellar with the same steps, without blocks."""
        other = Cellar(self._first)
        other._stock = self._stock
        other._entries = list(self._entries)
        other._steps = list(self._steps)
        return other

    def glass(self, cask):
        """Return the ascending tuple of the kinds with their shares in a cask."""
        check_cask(cask, len(self._first))
        return shares_at(self._stock, cask)

    @property
    def fills(self):
        """Return the cellar."""
        return fills_in(self._stock, len(self._first))

    @property
    def casks(self):
        """Return the number of casks."""
        return len(self._first)

    @property
    def depth(self):
        """Return the number of open blocks."""
        return len(self._blocks)

    @property
    def story(self):
        """Return the tuple of all that was done, in its sequence."""
        return tuple(self._entries)

    @property
    def left(self):
        """Return the fill of all that left."""
        return fill_at(self._stock, len(self._first))

    @property
    def born(self):
        """Return the fill of all that was put in, at first, too."""
        return fill_at(self._stock, len(self._first) + 1)

    def __len__(self):
        """Return the number of entries of the story."""
        return len(self._entries)

    def __eq__(self, other):
        """Return whether another cellar has equal first fills and an equal story."""
        return isinstance(other, Cellar) and self._first == other._first and self._entries == other._entries

    def inside(self, cask):
        """Return the fill of what is in a cask."""
        check_cask(cask, len(self._first))
        return fill_at(self._stock, cask)

    def work(self, entry):
        """Do a deed, a year or a season that is known to be one of these casks, as a step."""
        self.step(entry[0] if entry[0] in ("year", "season") else "do", (entry,), behind_entry(self._stock, entry))

    def step(self, word, entries, stock):
        """Note a step by its word and what was done, and the stock behind it."""
        self._steps.append((word, len(self._entries), self._stock))
        self._entries.extend(list(entries))
        self._stock = stock

    def back_to(self, many):
        """Take back all steps but the first so many."""
        if len(self._steps) > many:
            _, entries, stock = self._steps[many]
            self._entries = self._entries[:entries]
            self._steps = self._steps[:many]
            self._stock = stock


def are_shares(value, casks):
    """Return whether any object is a tuple of a share for each cask."""
    return isinstance(value, tuple) and len(value) == casks and all([is_share(entry) for entry in value])
