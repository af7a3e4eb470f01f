"""The errors of the package. Fields keep the very values that were given."""


class PartError(ValueError):
    """The base of all errors of the package."""

    def told(self):
        return "refused parterror"


class NoName(PartError):
    """A part is put under what is no NAME."""

    def __init__(self, name):
        self.name = name

    def told(self):
        return "refused noname"


class NoRatio(PartError):
    """A Ratio cannot be made; the word says why."""

    def __init__(self, word):
        self.word = word

    def told(self):
        return "refused noratio"


class NoSpace(PartError):
    """A space cannot be made; place is that of the axis, or -1."""

    def __init__(self, place, word):
        self.place = place
        self.word = word

    def told(self):
        return "refused nospace"


class NoCell(PartError):
    """Something is not a cell of the space."""

    def __init__(self, cell):
        self.cell = cell

    def told(self):
        return "refused nocell"


class NoAxis(PartError):
    """The space has no axis of this name."""

    def __init__(self, axis):
        self.axis = axis

    def told(self):
        return "refused noaxis"


class NoMember(PartError):
    """The axis has no such member."""

    def __init__(self, member):
        self.member = member

    def told(self):
        return "refused nomember"


class Twice(PartError):
    """A name stands twice where it may stand once."""

    def __init__(self, name):
        self.name = name

    def told(self):
        return "refused twice"


class OtherSpace(PartError):
    """Two things belong to unequal spaces."""

    def told(self):
        return "refused otherspace"


class NoTable(PartError):
    """A table cannot be made; place is that of the row, or -1."""

    def __init__(self, place, word):
        self.place = place
        self.word = word

    def told(self):
        return "refused notable"


class NoRows(PartError):
    """The table has fewer such rows than are taken out."""

    def __init__(self, cell, value):
        self.cell = cell
        self.value = value

    def told(self):
        return "refused norows"


class NoLinear(PartError):
    """A linear measure cannot be made; the word names the sequence."""

    def __init__(self, word):
        self.word = word

    def told(self):
        return "refused nolinear"


class NoQuotient(PartError):
    """The two measures of a quotient are proportional."""

    def told(self):
        return "refused noquotient"


class NoPart(PartError):
    """A store cannot hold this as a part."""

    def told(self):
        return "refused nopart"


class Full(PartError):
    """A store would have this number of parts, which is too many."""

    def __init__(self, number):
        self.number = number

    def told(self):
        return "refused full"


class NoSuch(PartError):
    """There is nothing of this name."""

    def __init__(self, name):
        self.name = name

    def told(self):
        return "refused nosuch"


class NoValues(PartError):
    """The value of this name is missing."""

    def __init__(self, name):
        self.name = name

    def told(self):
        return "refused novalues"


class NoOffer(PartError):
    """An offer cannot be made; place is that of the row, or -1."""

    def __init__(self, place, word):
        self.place = place
        self.word = word

    def told(self):
        return "refused nooffer"


class NoAsked(PartError):
    """What is asked or hidden is not as told; place is that of the item, or -1."""

    def __init__(self, place, word):
        self.place = place
        self.word = word

    def told(self):
        return "refused noasked"


class NoTaking(PartError):
    """The value of this part may change with a row that is taken out."""

    def __init__(self, name):
        self.name = name

    def told(self):
        return "refused notaking"


class NoMeasure(PartError):
    """Something is no measure."""

    def told(self):
        return "refused nomeasure"


class NotExtreme(PartError):
    """The part of this name (None: the measure) is neither least nor greatest."""

    def __init__(self, name):
        self.name = name

    def told(self):
        return "refused notextreme"


class NotConsistent(PartError):
    """No table has the values."""

    def told(self):
        return "refused notconsistent"


class NoKind(PartError):
    """There is no such kind of measure for groups."""

    def __init__(self, kind):
        self.kind = kind

    def told(self):
        return "refused nokind"


class NoRoll(PartError):
    """The fine grouping does not reach the coarse one."""

    def told(self):
        return "refused noroll"


class BadText(PartError):
    """A measure text is wrong at this word."""

    def __init__(self, place):
        self.place = place

    def told(self):
        return "refused badtext"


class BadLine(PartError):
    """A text is wrong in this line at this word."""

    def __init__(self, line, place):
        self.line = line
        self.place = place

    def told(self):
        return "refused badline"


class NoCommand(PartError):
    """A line for the desk is wrong at this word."""

    def __init__(self, place):
        self.place = place

    def told(self):
        return "refused nocommand"


class NoUndo(PartError):
    """No change is left that could be taken back."""

    def told(self):
        return "refused noundo"


class NoRedo(PartError):
    """No change is left that could be made again."""

    def told(self):
        return "refused noredo"
