"""The errors of the package."""


class MeshError(ValueError):
    """The base class of all errors of the package."""


class NotAMesh(MeshError):
    """The next links, or the faces of a text, do not form a mesh."""

    def __init__(self):
        super().__init__("these halves do not form a mesh")


class BadLine(MeshError):
    """A line of a text does not have the form that it must have."""

    def __init__(self, line):
        super().__init__(f"line {line} is wrong")
        self.line = line


class UnknownName(MeshError):
    """A line uses a name that is not known there."""

    def __init__(self, line, name):
        super().__init__(f"line {line}: the name {name} is not known")
        self.line = line
        self.name = name


class WrongKind(MeshError):
    """A line uses a name of a half, a face or a corner for another kind."""

    def __init__(self, line, name):
        super().__init__(f"line {line}: the name {name} is of the wrong kind")
        self.line = line
        self.name = name


class FactFails(MeshError):
    """A fact does not hold on the mesh at the start."""

    def __init__(self, line):
        super().__init__(f"line {line}: the fact does not hold")
        self.line = line


class Broken(MeshError):
    """A run broke, by a line or by its result."""

    def __init__(self, fault, line):
        super().__init__(f"line {line}: broken, {fault}")
        self.fault = fault
        self.line = line


class NeverGiven(MeshError):
    """There are no mesh and halves for which the facts hold."""

    def __init__(self):
        super().__init__("the facts hold for no mesh")


class Breaks(MeshError):
    """A deed breaks on a mesh."""

    def __init__(self, mesh, halves):
        super().__init__("the deed breaks on a mesh")
        self.mesh = mesh
        self.halves = list(halves)


class UnknownDeed(MeshError):
    """There is no routine or script of this name."""

    def __init__(self, name):
        super().__init__(f"there is no deed {name}")
        self.name = name


class UnknownMark(MeshError):
    """There is no mark of this name."""

    def __init__(self, name):
        super().__init__(f"there is no mark {name}")
        self.name = name


class NothingToUndo(MeshError):
    """There is no call that can be undone."""

    def __init__(self):
        super().__init__("there is no call to undo")
