"""A desk: a town that changes by deeds, which can be taken back and done again ([71] to [75])."""

from ridesonce.deeds import after_deed, read_deed, write_deed
from ridesonce.ends import first_unfair
from ridesonce.errors import BadCommand, BadWord, NothingToRedo, NothingToUndo, Refused
from ridesonce.lots import dead_lots
from ridesonce.rings import first_bad_ring
from ridesonce.towns import Town

VERDICTS = ("unfair", "sure", "open", "dead")
# For each guard the verdicts that it allows.
GUARDS = {"free": ("unfair", "sure", "open", "dead"), "wise": ("sure", "open"), "sure": ("sure",)}


def verdict_of(town):
    """The word for whether everybody rides in every order, in some order, or in none."""
    if first_unfair(town) is not None:
        return "unfair"
    if first_bad_ring(town) is None:
        return "sure"
    return "open" if len(dead_lots(town)) == 0 else "dead"


def _check_guard(guard, town):
    """Raise Refused unless the guard allows the town."""
    word = verdict_of(town)
    if word not in GUARDS[guard]:
        raise Refused(word)


class Desk:
    """A town as it stands, the deeds that led there, and those that were taken back."""

    def __init__(self):
        # An entry holds the town after a deed, who is on the road then, and the commands of the deed.
        self._past = ((Town.empty(), (), ()),)
        self._future = ()
        self._guard = "free"

    @property
    def town(self):
        """The town as it stands."""
        return self._past[-1][0]

    @property
    def guard(self):
        """The word of the guard."""
        return self._guard

    @guard.setter
    def guard(self, value):
        """Set the guard as set_guard does."""
        self.set_guard(value)

    @property
    def log(self):
        """The deeds that count, oldest first, as commands."""
        return [command for _, _, commands in self._past for command in commands]

    @property
    def riders(self):
        """For each ride of the town whether its rider is waiting or on the road."""
        town, road, _ = self._past[-1]
        return {ride[0]: "road" if ride[0] in road else "waiting" for ride in town.rides}

    def _make(self, deeds):
        """Do the deeds as one; if an error is raised, nothing has changed."""
        town, road, _ = self._past[-1]
        for deed in deeds:
            town, road = after_deed(town, road, deed)
        _check_guard(self._guard, town)
        self._past = (*self._past, (town, road, tuple([write_deed(deed) for deed in deeds])))
        self._future = ()

    def add_station(self, name, docks, bikes):
        """Add a station at the end."""
        self._make([("station", name, docks, bikes)])

    def book(self, name, start, goal, *, kept=True):
        """Add a ride at the end."""
        self._make([("book", name, start, goal, kept)])

    def cancel(self, name):
        """Take a ride out whose rider is not on the road."""
        self._make([("cancel", name)])

    def go(self, name):
        """Make the step of a ride."""
        self._make([("go", name)])

    def bring(self, name):
        """Add a bike to a station."""
        self._make([("bring", name)])

    def take(self, name):
        """Take a bike away from a station."""
        self._make([("take", name)])

    def all_of(self, commands):
        """Do all deeds of the list as one; the guard is asked about the last town alone."""
        deeds = [read_deed(command) for command in commands]
        for command, deed in zip(commands, deeds):
            if deed is None:
                raise BadCommand(command)
        if len(deeds) > 0:
            self._make(deeds)

    def undo(self):
        """Take back the last deed that counts."""
        if len(self._past) == 1:
            raise NothingToUndo()
        _check_guard(self._guard, self._past[-2][0])
        self._future = (self._past[-1], *self._future)
        self._past = self._past[:-1]

    def redo(self):
        """Do again the last deed that was taken back."""
        if len(self._future) == 0:
            raise NothingToRedo()
        _check_guard(self._guard, self._future[0][0])
        self._past = (*self._past, self._future[0])
        self._future = self._future[1:]

    def set_guard(self, word):
        """Set the guard to a word that allows the town as it stands."""
        if word not in GUARDS:
            raise BadWord(word)
        _check_guard(word, self._past[-1][0])
        self._guard = word

    def verdict(self):
        """The verdict of the town as it stands."""
        return verdict_of(self._past[-1][0])

    @classmethod
    def replay(cls, commands):
        """A new desk on which the deeds of the list are done, each as a deed of its own."""
        desk = cls()
        for command in commands:
            desk.all_of([command])
        return desk
