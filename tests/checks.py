"""What several tests ask of reading and running."""

from halfmeshes.errors import MeshError
from halfmeshes.meshes import Mesh
from halfmeshes.runs import run


def fault(read, text):
    """None, or the name and the values of the error that reading a text raises."""
    try:
        read(text)
    except MeshError as error:
        assert isinstance(error, ValueError)
        return (type(error).__name__, *vars(error).values())
    return None


def ran(deed, nexts, halves):
    """An outcome with links, kept and told, or the name and the values of the error."""
    try:
        outcome = run(deed, Mesh(nexts), halves)
    except MeshError as error:
        assert isinstance(error, ValueError)
        return (type(error).__name__, *vars(error).values())
    return ("Outcome", outcome.mesh.nexts(), outcome.kept, outcome.told)
