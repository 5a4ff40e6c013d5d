"""The pieces of a case at the start and at the end, for all ways and all meshes."""

from halfmeshes.cases import FIRST_MADE
from halfmeshes.rounds import present


class Pieces:
    """What connects the halves of a case at the start and at the end of its only course.

    Halves of new edges have the numbers behind those of the halves that were
    met. What lies on a way stays connected to the halves around it, and it may
    be connected to what lies on other ways.
    """

    def __init__(self, case):
        self.case = case
        course = case.courses[-1]
        self.many = case.many + course.made
        self.at_start = _pairs_of(case, case.stages[0], list(range(case.many)))
        living = course.living(case.many)
        self.at_end = [(self._number(first), self._number(second))
                       for first, second in _pairs_of(case, case.stages[-1], living)]
        self.remaining = [self._number(half) for half in living]
        self.beside_rest = [half for half in living if half < FIRST_MADE and _is_beside_rest(case, half)]
        self.always = self._pairs_of_both()

    def _number(self, half):
        """Return the number of a half."""
        if half < FIRST_MADE:
            return half
        return self.case.many + half - FIRST_MADE

    def classes(self, pairs):
        """Return for each half the least one that pairs connect with it."""
        least = list(range(self.many))
        for first, second in pairs:
            new = min(least[first], least[second])
            old = max(least[first], least[second])
            if new != old:
                least = [new if number == old else number for number in least]
        return least

    def _pairs_of_both(self):
        """Return pairs of halves that known links connect at the start and at the end."""
        leaders = {}
        found = []
        for half, key in enumerate(zip(self.classes(self.at_start), self.classes(self.at_end))):
            found.append((leaders.setdefault(key, half), half))
        return found

    def connected(self, rounds, row):
        """Return the classes of the halves that are connected at the start and at the end, by a row of ways."""
        return self.classes(self.always + self._pairs_of_ways(rounds, row))

    def _pairs_of_ways(self, rounds, row):
        """Return the pairs of the halves that the ways of a row connect."""
        ways = list(zip(rounds.chains.ends, row))
        if rounds.kind == "face":
            return ways
        # The way around a corner begins at the twin of the half ahead, and it
        # ends at one that leads to the twin of the other half.
        befores = self.case.links["prev"]
        twins = self.case.links["twin"]
        return [(befores.get(end, end), twins.get(start, start)) for end, start in ways]

    def changes_with(self, classes):
        """Return a dict of all changes of the number of pieces, with pairs of halves to be joined.

        The pairs are joined by the rest, beside what is connected anyway.
        """
        always = list(enumerate(classes))
        old = self.classes(always + self.at_start)
        new = self.classes(always + self.at_end)
        many_old = len(set(old[:self.case.many]))
        many_new = len(set([new[half] for half in self.remaining]))
        found = {many_new - many_old: []}
        # To join halves that are in one piece at the end makes only the pieces
        # at the start fewer, and the other way round. Nothing else goes
        # further, and each pair changes the difference by one.
        for kept, joined, step in ((new, old, 1), (old, new, -1)):
            more = many_new - many_old
            pairs = []
            for pair in self._useful_pairs(kept, joined):
                more += step
                pairs.append(pair)
                found[more] = list(pairs)
        return found

    def _useful_pairs(self, kept, joined):
        """Return pairs within classes of the first kind, each of which joins two of the second kind."""
        found = []
        joined = list(joined)
        for first in self.beside_rest:
            for second in self.beside_rest:
                if first < second and kept[first] == kept[second] and joined[first] != joined[second]:
                    found.append((first, second))
                    old = joined[second]
                    joined = [joined[first] if number == old else number for number in joined]
        return found


def _pairs_of(case, stage, halves):
    """Return the pairs of halves that known links connect at a stage."""
    found = []
    twins = case.links["twin"]
    for half in halves:
        other = present(case, stage, half, "next")
        if other is not None:
            found.append((half, other))
        if half >= FIRST_MADE:
            found.append((half, half ^ 1))
        elif half in twins:
            found.append((half, twins[half]))
    return found


def _is_beside_rest(case, half):
    """Tell whether a link of a half leads to one that was not met."""
    return any([half not in case.links[link] for link in case.links])
