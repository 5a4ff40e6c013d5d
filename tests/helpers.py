"""Meshes for the tests, and what the document says, written down in the plainest way."""

from itertools import permutations, product

# Texts of meshes and their counts; the last one has three pieces.
KNOWN_TEXTS = {
    "0\n1": (2, 1, 1, 1, 0),
    "0 1": (1, 2, 1, 1, 0),
    "0 2 1 3": (1, 1, 2, 1, 1),
    "0 2 1 3 4 6 5 7": (1, 1, 4, 1, 2),
    "0 2 4\n1 5 3": (2, 3, 3, 1, 0),
    "0 2 4\n1 3 5": (2, 1, 3, 1, 1),
    "0 1\n2\n3\n4 6 5 7": (4, 4, 4, 3, 1),
}


def all_nexts(edges):
    """Every list of next links for a number of edges."""
    return [list(order) for order in permutations(range(2 * edges))]


def shuffled(items, seed):
    """The items in an order that depends on the seed alone."""
    items = list(items)
    state = 7919 * seed + 12345
    for last in range(len(items) - 1, 0, -1):
        state = (1103515245 * state + 12345) % 2 ** 31
        other = (state >> 8) % (last + 1)
        items[last], items[other] = items[other], items[last]
    return items


def scattered_nexts(edges, seed):
    """Some links, mostly of one piece."""
    return shuffled(range(2 * edges), seed)


def joined_nexts(parts):
    """The links of several meshes side by side."""
    nexts = []
    for part in parts:
        nexts = nexts + [half + len(nexts) for half in part]
    return nexts


def pieced_nexts(edges, seed):
    """Links of several small pieces, whose halves lie mixed."""
    parts, left = [], edges
    while left:
        size = min(left, 1 + (seed + len(parts)) % 4)
        parts.append(scattered_nexts(size, seed + len(parts)))
        left -= size
    nexts = joined_nexts(parts)
    return moved_nexts(nexts, some_bijection(edges, seed))


def many_nexts():
    """Links of all sizes from 0 to 30 edges: all of the smallest, some of the others."""
    found = [nexts for edges in range(3) for nexts in all_nexts(edges)]
    for edges in range(31):
        found.append(list(range(2 * edges)))
        found.append([(half + 1) % (2 * edges) for half in range(2 * edges)])
        found.append([half ^ 1 for half in range(2 * edges)])
        for seed in range(4):
            found.append(scattered_nexts(edges, 31 * seed + edges))
            found.append(pieced_nexts(edges, 31 * seed + edges))
    return found


def plain_twin(half):
    return half + 1 if half % 2 == 0 else half - 1


def plain_turn(nexts, half):
    return plain_twin(nexts.index(half))


def piece_labels(nexts):
    """For each half, the least half of its piece."""
    labels = list(range(len(nexts)))
    changed = True
    while changed:
        changed = False
        for half in range(len(nexts)):
            for other in (nexts[half], plain_twin(half)):
                least = min(labels[half], labels[other])
                if labels[half] != least or labels[other] != least:
                    labels[half] = labels[other] = least
                    changed = True
    return labels


def plain_pieces(nexts):
    labels = piece_labels(nexts)
    return [[half for half in range(len(nexts)) if labels[half] == first]
            for first in sorted(set(labels))]


def bijections(edges):
    """All dicts from halves to halves, each to just one, by which twins become twins."""
    found = []
    for order in permutations(range(edges)):
        for flips in product((0, 1), repeat=edges):
            found.append({2 * edge + side: 2 * order[edge] + (side ^ flips[edge])
                          for edge in range(edges) for side in (0, 1)})
    return found


def some_bijection(edges, seed):
    """One such dict for any number of edges."""
    order = shuffled(range(edges), seed + 1)
    return {2 * edge + side: 2 * order[edge] + (side ^ (order[edge] + seed) % 2)
            for edge in range(edges) for side in (0, 1)}


def moved_nexts(nexts, names):
    """The links when each half gets a new name."""
    found = [None] * len(nexts)
    for half, after in enumerate(nexts):
        found[names[half]] = names[after]
    return found


def is_renaming(first, second, pairs, found):
    """What point 12 asks of the dict, for two lists of links."""
    return (sorted(found) == list(range(len(first)))
            and sorted(found.values()) == list(range(len(second)))
            and all(found[plain_twin(half)] == plain_twin(found[half]) for half in found)
            and all(found[first[half]] == second[found[half]] for half in found)
            and all(found[a] == b for a, b in pairs))


def plain_numbered(nexts, halves):
    """Point 11, word by word: the new links and the new numbers of the halves."""
    new = {}

    def give(half):
        if half not in new:
            least = min(number for number in range(0, 2 * len(nexts) + 2, 2)
                        if number not in new.values())
            new[half] = least
            new[plain_twin(half)] = least + 1

    for half in halves:
        give(half)
        number = 0
        while number in new.values():
            old = [key for key in new if new[key] == number][0]
            give(nexts[old])
            number += 1
    links = [None] * len(new)
    for half in new:
        links[new[half]] = new[nexts[half]]
    return links, [new[half] for half in halves]
