"""Closed meshes that are stored in halves, and their texts."""

from halfmeshes.errors import BadLine, NotAMesh


class Mesh:
    """A mesh, given by the next half of each half; it never changes."""

    def __init__(self, nexts):
        links = list(nexts)
        if not _are_all_halves(links):
            raise NotAMesh()
        self._nexts = links
        self._prevs = _inverse(links)
        self._turns = [half ^ 1 for half in self._prevs]

    def __eq__(self, other):
        return isinstance(other, Mesh) and self._nexts == other._nexts

    def __len__(self):
        return len(self._nexts)

    def __contains__(self, half):
        return _is_integer(half) and 0 <= half < len(self._nexts)

    @property
    def edges(self):
        """The number of edges."""
        return len(self._nexts) // 2

    def after(self, half):
        """Return the next half."""
        return self._nexts[half]

    def before(self, half):
        """Return the previous half."""
        return self._prevs[half]

    def twin(self, half):
        """Return the other half of the edge."""
        return half ^ 1

    def turned(self, half):
        """Return the next half around the corner."""
        return self._turns[half]

    def nexts(self):
        """Return the list of all next links."""
        return list(self._nexts)

    def faces(self):
        """Return the faces, each from its least half on by next."""
        return _rounds(self._nexts)

    def corners(self):
        """Return the corners, each from its least half on by turn."""
        return _rounds(self._turns)

    def pieces(self):
        """Return the pieces, each as an ascending list."""
        found = []
        seen = {}
        for half in range(len(self._nexts)):
            if half not in seen:
                piece = self._piece(half)
                seen.update({member: True for member in piece})
                found.append(piece)
        return found

    def _piece(self, start):
        """Return the ascending list of the halves of one piece."""
        seen = {}
        todo = [start]
        while todo:
            half = todo.pop()
            if half not in seen:
                seen[half] = True
                todo.append(self._nexts[half])
                todo.append(half ^ 1)
        return sorted(seen)

    def counts(self):
        """Return the numbers of faces, corners, edges, pieces and handles."""
        faces = len(self.faces())
        corners = len(self.corners())
        pieces = len(self.pieces())
        edges = self.edges
        handles = pieces - (corners - edges + faces) // 2
        return (faces, corners, edges, pieces, handles)

    def is_one_face(self, first, second):
        """Tell whether two halves belong to the same face."""
        return _is_one_round(self._nexts, first, second)

    def is_one_corner(self, first, second):
        """Tell whether two halves belong to the same corner."""
        return _is_one_round(self._turns, first, second)

    def text(self):
        """Return the text of the mesh, a line for each face."""
        return "\n".join([" ".join([str(half) for half in face]) for face in self.faces()])


def read_mesh(text):
    """Return the mesh of a text with a line for each face."""
    if text == "":
        return Mesh([])
    faces = _read_faces(text)
    numbers = [number for row in faces for number in row]
    if not _are_all_halves(numbers):
        raise NotAMesh()
    nexts = [0] * len(numbers)
    for face in faces:
        for at, half in enumerate(face):
            nexts[face[at - 1]] = half
    return Mesh(nexts)


def _read_faces(text):
    """Return the lists of numbers in the lines of a text."""
    faces = []
    for at, line in enumerate(text.split("\n")):
        words = line.split(" ")
        if not all([_is_number(word) for word in words]):
            raise BadLine(at + 1)
        faces.append([int(word) for word in words])
    return faces


def _is_number(word):
    """Tell whether a word is a number of at most four digits."""
    # isdigit alone also takes digits of other alphabets.
    if not word.isascii() or not word.isdigit() or len(word) > 4:
        return False
    return word == "0" or not word.startswith("0")


def _is_integer(value):
    """Tell whether a value is an integer, as True and False are not."""
    return isinstance(value, int) and not isinstance(value, bool)


def are_halves(numbers, count):
    """Tell whether numbers are different integers from 0 to below a count."""
    if not all([_is_integer(number) and 0 <= number < count for number in numbers]):
        return False
    return len(set(numbers)) == len(numbers)


def _are_all_halves(numbers):
    """Tell whether a list holds each half of a mesh just once."""
    return len(numbers) % 2 == 0 and are_halves(numbers, len(numbers))


def _inverse(links):
    """Return the links that lead back."""
    back = [0] * len(links)
    for half, other in enumerate(links):
        back[other] = half
    return back


def _rounds(links):
    """Return the rounds that links make, each from its least half on."""
    found = []
    seen = [False] * len(links)
    for start in range(len(links)):
        if not seen[start]:
            members = []
            half = start
            while not seen[half]:
                seen[half] = True
                members.append(half)
                half = links[half]
            found.append(members)
    return found


def _is_one_round(links, first, second):
    """Tell whether links lead from one half to another one."""
    half = links[first]
    while half != first and half != second:
        half = links[half]
    return half == second
