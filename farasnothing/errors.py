"""The errors of the package, each with its arguments under their names."""


class FarError(ValueError):
    """What all errors of the package derive from."""


class BadStamp(FarError):
    """It is no stamp."""

    def __init__(self, value):
        super().__init__("no stamp")
        self.value = value


class BadDelay(FarError):
    """It is no delay."""

    def __init__(self, value):
        super().__init__("no delay")
        self.value = value


class BadModel(FarError):
    """It is no model."""

    def __init__(self, value):
        super().__init__("no model")
        self.value = value


class NoStation(FarError):
    """It is no station of the model, or not the stations that are asked for."""

    def __init__(self, value):
        super().__init__("no station")
        self.value = value


class NoPort(FarError):
    """It is no in, or no out, of the station."""

    def __init__(self, value):
        super().__init__("no port")
        self.value = value


class BadWorths(FarError):
    """It is not a worth for each cell of the station."""

    def __init__(self, value):
        super().__init__("no worths of the cells")
        self.value = value


class NoHandler(FarError):
    """No handler of the station has this name."""

    def __init__(self, value):
        super().__init__("no handler")
        self.value = value


class BadWorth(FarError):
    """It is no worth, or not one with which the handler is done."""

    def __init__(self, value):
        super().__init__("no worth")
        self.value = value


class BadChanges(FarError):
    """They are no changes of delays."""

    def __init__(self, value):
        super().__init__("no changes")
        self.value = value


class Over(FarError):
    """Nothing waits any more."""

    def __init__(self):
        super().__init__("nothing waits")


class BadCount(FarError):
    """It is no count, or a greater one than may be."""

    def __init__(self, value):
        super().__init__("no count")
        self.value = value


class BadKnows(FarError):
    """It is no word of knowing, or not one that may stand here."""

    def __init__(self, value):
        super().__init__("no word of knowing")
        self.value = value


class BadRoofs(FarError):
    """They are no roofs."""

    def __init__(self, value):
        super().__init__("no roofs")
        self.value = value


class NoLine(FarError):
    """It is no line of the model, or not the lines that are asked for."""

    def __init__(self, value):
        super().__init__("no line")
        self.value = value


class NothingOnWay(FarError):
    """Nothing is on the way on the line."""

    def __init__(self, line):
        super().__init__("nothing is on the way")
        self.line = line


class NoItem(FarError):
    """Nothing waits at the station."""

    def __init__(self, station):
        super().__init__("no item")
        self.station = station


class Waits(FarError):
    """Too little was heard of the line."""

    def __init__(self, line):
        super().__init__("too little was heard")
        self.line = line


class Inner(FarError):
    """The line begins and ends under one roof."""

    def __init__(self, line):
        super().__init__("an inner line")
        self.line = line


class BadState(FarError):
    """It is no state of the station."""

    def __init__(self, value):
        super().__init__("no state")
        self.value = value


class Behind(FarError):
    """The station has to take again what it took ahead of a fall."""

    def __init__(self, station):
        super().__init__("a station is behind")
        self.station = station


class OnWay(FarError):
    """Something is on the way on the line."""

    def __init__(self, line):
        super().__init__("something is on the way")
        self.line = line


class BadPrices(FarError):
    """They are no prices."""

    def __init__(self, value):
        super().__init__("no prices")
        self.value = value


class BadTime(FarError):
    """It is no time."""

    def __init__(self, value):
        super().__init__("no time")
        self.value = value


class HasChanges(FarError):
    """The machine has changes of delays."""

    def __init__(self):
        super().__init__("there are changes")


class Unreached(FarError):
    """Neither roofs nor lines lead to the station."""

    def __init__(self, station):
        super().__init__("a station is not reached")
        self.station = station


class UnderWay(FarError):
    """A picture is begun and not complete."""

    def __init__(self):
        super().__init__("a picture is under way")


class BadPicture(FarError):
    """It has not the form of a picture."""

    def __init__(self, value):
        super().__init__("no picture")
        self.value = value


class Forgotten(FarError):
    """The marks of the station do not go back so far."""

    def __init__(self, station):
        super().__init__("no mark goes back so far")
        self.station = station


class TooEarly(FarError):
    """The change is let from the stamp on, or never if that is None."""

    def __init__(self, stamp):
        super().__init__("the change is too early")
        self.stamp = stamp


class BadText(FarError):
    """The line of the text has not its form."""

    def __init__(self, line):
        super().__init__("a bad line of a text")
        self.line = line


class BadValue(FarError):
    """It has not the form of a deed."""

    def __init__(self, value):
        super().__init__("no deed")
        self.value = value


class BadOrder(FarError):
    """It has not the form of an order."""

    def __init__(self, value):
        super().__init__("no order")
        self.value = value


class NothingToUndo(FarError):
    """No order is left that can be undone."""

    def __init__(self):
        super().__init__("nothing to undo")


class NothingToRedo(FarError):
    """No order is left that can be done again."""

    def __init__(self):
        super().__init__("nothing to do again")


class BadLine(FarError):
    """The line has none of the forms that a desk knows."""

    def __init__(self, line):
        super().__init__("a bad line")
        self.line = line
