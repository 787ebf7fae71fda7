"""The errors of the package; those with a field hold the argument or the item they are raised for."""


class WalkError(ValueError):
    """The base of all errors of the package."""


class InvalidNumber(WalkError):
    """An argument that has to be a whole number within its bounds is none."""

    def __init__(self, value=None):
        super().__init__("not a whole number that fits here")
        self.value = value


class InvalidList(WalkError):
    """An argument that has to be a list is none, or does not fit as a list."""

    def __init__(self, value=None):
        super().__init__("not a list that fits here")
        self.value = value


class InvalidItem(WalkError):
    """An item of an argument does not fit."""

    def __init__(self, value=None):
        super().__init__("not an item that fits here")
        self.value = value


class InvalidProgram(WalkError):
    """An argument that has to be a program is none, or does not fit."""

    def __init__(self, value=None):
        super().__init__("not a program that fits here")
        self.value = value


class InvalidRow(WalkError):
    """An argument that has to be a pressed row, with its beginning, is none."""

    def __init__(self, value=None):
        super().__init__("not a row that fits here")
        self.value = value


class InvalidText(WalkError):
    """An argument that has to be the text of a program is none."""

    def __init__(self, value=None):
        super().__init__("not the text of a program")
        self.value = value


class InvalidName(WalkError):
    """An argument that has to be a name is none."""

    def __init__(self, name=None):
        super().__init__("not a name")
        self.name = name


class TakenName(WalkError):
    """A program is kept by this name."""

    def __init__(self, name=None):
        super().__init__("a program is kept by this name")
        self.name = name


class UnknownName(WalkError):
    """An argument that has to be the name of a place, or a kept name, is none."""

    def __init__(self, name=None):
        super().__init__("not a name that is known here")
        self.name = name


class NothingToUndo(WalkError):
    """No deed or step is left to undo."""
