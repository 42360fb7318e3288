"""Names: which there are, and what each may be used for (point 11)."""

from hushrow.rows import CallRow, DeedRow, GivenRow, HandRow, IfRow, LetRow, LoopRow
from hushrow.rows import OwnRow, PutRow, SayRow, SendRow, SetRow

# By each use that a row makes of a name, the kinds of names that serve it.
SERVING = {
    "thing": ("given", "own", "part"),
    "list": ("given list", "own list"),
    "place": ("own", "part"),
    "put": ("own list",),
    "hand": ("hand",),
    "mark": ("mark",),
}


def names_told(row):
    """The names that a row tells of itself, with their kinds, from the left."""
    if isinstance(row, HandRow):
        return [(row.name, "hand")]
    if isinstance(row, LetRow):
        return [(row.name, "mark")]
    if isinstance(row, GivenRow):
        return [(row.name, "given" if row.size == 0 else "given list")]
    if isinstance(row, OwnRow):
        return [(row.name, "own" if row.size == 0 else "own list")]
    if isinstance(row, DeedRow):
        return [(row.name, "deed")] + [(part, "part") for part in row.parts]
    return []


def things_used(things):
    return [(thing, "thing") for thing in things if isinstance(thing, str)]


def value_used(value):
    if len(value) == 3 and value[1] == "at":
        return [(value[0], "list")] + things_used([value[2]])
    # Every second one is a thing: the word between may be spelled like a name.
    return things_used(value[::2])


def names_used(row):
    """The names that a row uses, with their uses, from the left; but for the deed of a call."""
    if isinstance(row, SetRow):
        return [(row.name, "place")] + value_used(row.value)
    if isinstance(row, PutRow):
        return [(row.name, "put")] + things_used([row.place]) + value_used(row.value)
    if isinstance(row, SendRow):
        return [(row.name, "hand")] + value_used(row.value)
    if isinstance(row, SayRow):
        return [(row.name, "place")] + value_used(row.value) + [(row.mark, "mark")]
    if isinstance(row, CallRow):
        return things_used(row.things)
    if isinstance(row, IfRow):
        return value_used(row.value)
    if isinstance(row, LoopRow):
        return things_used([row.thing])
    return []


# The names of a program, as far as its rows have been read.
class Names:
    def __init__(self):
        self.kinds = {}
        # The deeds that have ended, each with the count of its parts: these may be called.
        self.ended = {}
        # The deed that is open, or None.
        self.deed = None
        self.spoken = {}

    def fault(self, row):
        """The first name of the row, from the left, that is not as it must be, or None."""
        fresh = {}
        for name, kind in names_told(row):
            if name in self.kinds or name in fresh:
                return name
            fresh[name] = kind
        if isinstance(row, CallRow) and self.ended.get(row.name) != len(row.things):
            return row.name
        for name, use in names_used(row):
            if not self.serves(name, use):
                return name
        return None

    def serves(self, name, use):
        kind = self.kinds.get(name)
        if kind == "part" and (self.deed is None or name not in self.deed.parts):
            return False
        if use == "mark" and name in self.spoken:
            return False
        return kind in SERVING[use]

    def keep(self, row):
        """Keeps what a row without fault tells."""
        for name, kind in names_told(row):
            self.kinds[name] = kind
        if isinstance(row, DeedRow):
            self.deed = row
        if isinstance(row, SayRow):
            self.spoken[row.mark] = True

    def end_deed(self):
        self.ended[self.deed.name] = len(self.deed.parts)
        self.deed = None
