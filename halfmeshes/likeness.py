"""New numbers for halves, renamings, and all small meshes up to renaming."""

from halfmeshes.meshes import Mesh


def numbered(mesh, halves):
    """Return the pieces of some halves with new numbers, and the new halves."""
    order = []
    numbers = {}
    done = 0
    for half in halves:
        _add_edge(mesh, half, order, numbers)
        while done < len(order):
            _add_edge(mesh, mesh.after(order[done]), order, numbers)
            done += 1
    nexts = [numbers[mesh.after(half)] for half in order]
    return Mesh(nexts), [numbers[half] for half in halves]


def _add_edge(mesh, half, order, numbers):
    """Give the least free numbers to a half and its twin, if it has none."""
    if half not in numbers:
        for member in (half, mesh.twin(half)):
            numbers[member] = len(order)
            order.append(member)


def renaming(first, second, pairs):
    """Return a renaming of one mesh to another that keeps pairs, or None."""
    if len(first) != len(second):
        return None
    found = {}
    for half, image in pairs:
        if not _place(first, second, half, image, found):
            return None
    # The pieces without a pair may be placed one by one: if two of them fit
    # in the same place, they are alike and fit in the same places.
    for piece in first.pieces():
        if piece[0] not in found and not _place_somewhere(first, second, piece[0], found):
            return None
    return found


def _place_somewhere(first, second, half, found):
    """Add a piece to a renaming where it fits, and tell whether it does."""
    for image in range(len(second)):
        if _place(first, second, half, image, found):
            return True
    return False


def _place(first, second, half, image, found):
    """Add the piece of a half to a renaming, and tell whether it fits."""
    if half in found:
        return found[half] == image
    if image in list(found.values()):
        return False
    part = _spread(first, second, half, image)
    if part is None:
        return False
    found.update(part)
    return True


def _spread(first, second, half, image):
    """Return the only renaming of a piece that leads a half there, or None."""
    part = {}
    # The images are kept too: a piece may wind several times around a smaller
    # one, and then the links agree, but it is no renaming.
    images = {}
    todo = [(half, image)]
    while todo:
        old, new = todo.pop()
        if old not in part and new not in images:
            part[old] = new
            images[new] = True
            todo.append((first.after(old), second.after(new)))
            todo.append((first.twin(old), second.twin(new)))
        elif part.get(old) != new:
            return None
    return part


def small_meshes(edges, named):
    """Yield each mesh with marked halves once, numbered as by numbered."""
    # The choices are made in the order in which numbered gives the numbers,
    # so that each tuple comes from just one row of choices.
    todo = [([], 0, [])]
    while todo:
        nexts, used, halves = todo.pop()
        if len(nexts) < used:
            todo.extend(_with_next(nexts, used, halves, edges))
        elif len(halves) < named:
            todo.extend(_with_half(nexts, used, halves, edges))
        elif used == 2 * edges:
            # The list is shared with states that are still to be done.
            yield (Mesh(nexts), list(halves))


def _with_next(nexts, used, halves, edges):
    """Return the states with one more next link."""
    choices = [half for half in _choices(used, edges) if half not in nexts]
    return [(nexts + [half], _used_with(used, half), halves) for half in choices]


def _with_half(nexts, used, halves, edges):
    """Return the states with one more marked half."""
    return [(nexts, _used_with(used, half), halves + [half]) for half in _choices(used, edges)]


def _choices(used, edges):
    """Return the numbers in use, and the least other one if there is any."""
    return list(range(min(used + 1, 2 * edges)))


def _used_with(used, half):
    """Return how many numbers are in use when a half has been chosen."""
    if half == used:
        return used + 2
    return used
