"""The errors of the package: each is made of the values that its attributes tell."""


class BendError(ValueError):
    """A value that was passed is not what is asked for."""


class InvalidChange(BendError):
    def __init__(self, value):
        super().__init__("this is no Change")
        self.value = value


class InvalidDirection(BendError):
    def __init__(self, value):
        super().__init__("this is no direction: neither (0, 1) nor (1, r)")
        self.value = value


class InvalidLetter(BendError):
    def __init__(self, value):
        super().__init__("this is no letter: neither x nor y")
        self.value = value


class InvalidLine(BendError):
    def __init__(self, value):
        super().__init__("this is no line: no list of 0 to 31 numbers")
        self.value = value


class InvalidMany(BendError):
    def __init__(self, value):
        super().__init__("this is no count within the bounds")
        self.value = value


class InvalidNumber(BendError):
    def __init__(self, value):
        super().__init__("this is no number that can stand here")
        self.value = value


class InvalidPoint(BendError):
    def __init__(self, value):
        super().__init__("this is no point that can stand here")
        self.value = value


class InvalidPoly(BendError):
    def __init__(self, value):
        super().__init__("this is no Poly")
        self.value = value


class InvalidThread(BendError):
    def __init__(self, value):
        super().__init__("this is no thread")
        self.value = value


class InvalidWord(BendError):
    def __init__(self, value):
        super().__init__("this is no word")
        self.value = value


class DividedByZero(BendError):
    def __init__(self):
        super().__init__("nothing is divided by 0")


class InvalidClaim(BendError):
    def __init__(self, value):
        super().__init__("this is no claim")
        self.value = value


class InvalidCommand(BendError):
    def __init__(self, value):
        super().__init__("this is no command")
        self.value = value


class InvalidEntries(BendError):
    def __init__(self, position):
        super().__init__("these are no entries of a Poly")
        self.position = position


class InvalidItems(BendError):
    def __init__(self, position):
        super().__init__("these are no straight changes and shears")
        self.position = position


class InvalidLines(BendError):
    def __init__(self, position):
        super().__init__("these are no lines of deeds")
        self.position = position


class InvalidPaper(BendError):
    def __init__(self, value):
        super().__init__("this is no paper of the claim or its contrary")
        self.value = value


class InvalidPartner(BendError):
    def __init__(self, value):
        super().__init__("this is no partner")
        self.value = value


class InvalidPoints(BendError):
    def __init__(self, value):
        super().__init__("these are no three points that can stand here")
        self.value = value


class InvalidRows(BendError):
    def __init__(self, value):
        super().__init__("these are no two lists of two numbers")
        self.value = value


class InvalidShear(BendError):
    def __init__(self, value):
        super().__init__("this is no shear")
        self.value = value


class InvalidStep(BendError):
    def __init__(self, value):
        super().__init__("this is no step")
        self.value = value


class InvalidText(BendError):
    def __init__(self, line):
        super().__init__("this is no written form")
        self.line = line


class InvalidThing(BendError):
    def __init__(self, value):
        super().__init__("this is nothing that has a written form")
        self.value = value


class MissingError(LookupError):
    """Nothing is kept under what was asked for."""


class UnknownLabel(MissingError):
    def __init__(self, value):
        super().__init__("no claim is noted under this label")
        self.value = value


class UnknownName(MissingError):
    def __init__(self, value):
        super().__init__("nothing of that kind is kept under this name")
        self.value = value


class StateError(RuntimeError):
    """What was passed is of the right kind, but does not let it be done."""


class CommandFailed(StateError):
    def __init__(self, position):
        super().__init__("one of the commands failed")
        self.position = position


class LabelTaken(StateError):
    def __init__(self, label):
        super().__init__("a claim is noted under this label")
        self.label = label


class NameTaken(StateError):
    def __init__(self, name):
        super().__init__("something is kept under this name")
        self.name = name


class NoThread(StateError):
    def __init__(self):
        super().__init__("both lines come out of a degree below 1")


class NotApart(StateError):
    def __init__(self):
        super().__init__("the degrees are below 1 or have a common divisor")


class NotHalf(StateError):
    def __init__(self):
        super().__init__("this Poly is no half")


class NotStraight(StateError):
    def __init__(self):
        super().__init__("this Change is not straight")


class NotUndone(StateError):
    def __init__(self):
        super().__init__("this Change cannot be undone")


class NothingToRedo(StateError):
    def __init__(self):
        super().__init__("no deed can be done again")


class NothingToUndo(StateError):
    def __init__(self):
        super().__init__("no deed can be taken back")


class NoughtLine(StateError):
    def __init__(self):
        super().__init__("this line is nought")


class NoughtPoly(StateError):
    def __init__(self):
        super().__init__("this Poly is nought")


class LimitError(ArithmeticError):
    """More would be needed than is let."""


class TooMany(LimitError):
    def __init__(self, what, limit):
        super().__init__("more than the limit")
        self.what = what
        self.limit = limit
