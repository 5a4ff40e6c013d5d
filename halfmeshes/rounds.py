"""The faces or corners of a case, for all ways through the halves that were not met.

The halves that were met form chains, along faces by next and around corners by
turn. A way leads from the end of each chain to the start of one. A row of ways
is the list of these starts, in the order of the ends.

In a table, the places are those of the halves that were met, behind them one
for each of these for the rest on the way that leads away from it, and then
those of the halves of new edges. An entry is the place that follows, or None.
"""

from halfmeshes.cases import FIRST_MADE, KINDS


def is_possible(case):
    """Tell whether there is a mesh with all that is known of a case."""
    for kind in KINDS:
        stages = [key[1] for key in case.likes if key[0] == kind]
        if stages and not _agree_at_start(case, kind):
            return False
        # Any combination that is possible at the start comes from some ways,
        # but not so at the later stages.
        if any(stages) and not Rounds(case, kind).rows(1):
            return False
    return True


def _agree_at_start(case, kind):
    """Tell whether what is known of the start does not contradict itself."""
    groups = _groups(case, kind)
    likes = [(key[2], case.likes[key]) for key in case.likes if key[0] == kind and key[1] == 0]
    for (first, second), is_like in likes:
        new, old = groups[first], groups[second]
        if is_like and new != old:
            if min(new, old) < 0:
                return False
            groups = {half: new if number == old else number for half, number in groups.items()}
    return all([is_like or groups[first] != groups[second] for (first, second), is_like in likes])


def _groups(case, kind):
    """Return the dict from the halves to the numbers of their chains, below 0 for closed ones."""
    steps = known_steps(case, kind)
    groups = dict(Chains(case, kind).chain_of)
    for start in range(case.many):
        half = start
        while half not in groups:
            groups[half] = -1 - start
            half = steps[half]
    return groups


def known_steps(case, kind):
    """Return the dict of the next halves, or of the turns, that are known."""
    if kind == "face":
        return case.links["next"]
    twins = case.links["twin"]
    return {half: twins[before] for half, before in case.links["prev"].items() if before in twins}


class Chains:
    """The chains of a case that are not closed to rounds.

    `ends` and `starts` are their ends and starts in the same order; `chain_of`
    leads from each half in a chain to the number of the chain.
    """

    def __init__(self, case, kind):
        steps = known_steps(case, kind)
        ahead = {other: half for half, other in steps.items()}
        self.ends = [half for half in range(case.many) if half not in steps]
        self.starts = []
        self.chain_of = {}
        for number, end in enumerate(self.ends):
            half = end
            self.chain_of[half] = number
            while half in ahead:
                half = ahead[half]
                self.chain_of[half] = number
            self.starts.append(half)


def _used_halves(case, kind):
    """Return a dict of halves, among them one of each chain that the runs use or change.

    If a chain is changed, a half of it gets another previous half, as the links
    are right at each stage.
    """
    used = {half: True for key in case.likes if key[0] == kind for half in key[2]}
    for course in case.courses:
        for lines in [span.label_lines[kind] for span in course.spans] + [course.label_lines[kind]]:
            used.update({line[1]: True for line in lines})
            used.update({line[3]: True for line in lines if line[2] == "old"})
        used.update({half: True for half in course.written["prev"]})
    return used


class Rounds:
    """The faces, or the corners, of a case at all stages, for each row of ways."""

    def __init__(self, case, kind):
        self.case = case
        self.kind = kind
        self.chains = Chains(case, kind)
        numbers = self.chains.chain_of
        # A chain that is neither used nor changed is like the rest, wherever it is.
        self.loose = sorted(set([numbers[half] for half in _used_halves(case, kind) if half in numbers]))
        self.likes = [(key[1], key[2], is_like) for key, is_like in case.likes.items() if key[0] == kind]
        self.bare = {}

    def place(self, half):
        """Return the place of a half."""
        if half < FIRST_MADE:
            return half
        return 2 * self.case.many + half - FIRST_MADE

    def rows(self, most=None):
        """Return the rows of ways, or so many of them, that agree with what is known."""
        found = []
        unlike = self._unlike()
        todo = [()]
        while todo and (most is None or len(found) < most):
            order = todo.pop()
            if len(order) < len(self.loose):
                longer = [order + (number,) for number in self.loose if number not in order]
                todo.extend([one for one in longer if not self._brings_together(one, unlike)])
            else:
                row = self._row(order)
                if self._fits(row):
                    found.append(row)
        return found

    def _unlike(self):
        """Return the pairs of the chains that are known to be in different rounds at the start."""
        numbers = self.chains.chain_of
        return [(numbers[first], numbers[second]) for stage, (first, second), is_like in self.likes
                if stage == 0 and not is_like and first in numbers and second in numbers]

    def _brings_together(self, order, unlike):
        """Tell whether the last way joins two chains that are in different rounds."""
        if not unlike:
            return False
        behind = dict(zip(self.loose, order))
        ahead = {other: number for number, other in behind.items()}
        number = self.loose[len(order) - 1]
        members = {number: True}
        for links in (behind, ahead):
            other = number
            while other in links and links[other] != number:
                other = links[other]
                members[other] = True
        return any([first in members and second in members for first, second in unlike])

    def _row(self, order):
        """Return the row in which the loose chains are followed by some of them."""
        row = list(self.chains.starts)
        for number, other in zip(self.loose, order):
            row[number] = self.chains.starts[other]
        return row

    def _fits(self, row):
        """Tell whether a row of ways agrees with what is known."""
        numbers = {stage: self.numbers_at(stage, row) for stage in sorted(set([like[0] for like in self.likes]))}
        for stage, (first, second), is_like in self.likes:
            places = numbers[stage]
            if (places[self.place(first)] == places[self.place(second)]) != is_like:
                return False
        return True

    def numbers_at(self, stage, row):
        """Return the list of the numbers of the rounds of all places at a stage."""
        return round_numbers(self.table_at(stage, row))

    def table_at(self, stage, row):
        """Return the table at a stage."""
        if stage not in self.bare:
            self.bare[stage] = self._bare_table(self.case.stages[stage])
        table = list(self.bare[stage])
        many = self.case.many
        for end, start in zip(self.chains.ends, row):
            table[many + end] = start
        return table

    def _bare_table(self, stage):
        """Return the table at a stage without the ways."""
        table = [None] * (2 * self.case.many + stage.made)
        for half in list(range(self.case.many)) + list(range(FIRST_MADE, FIRST_MADE + stage.made)):
            if half not in stage.dropped:
                table[self.place(half)] = self._step(stage, half)
        return table

    def _step(self, stage, half):
        """Return the place that follows a half at a stage."""
        many = self.case.many
        if self.kind == "face":
            other = present(self.case, stage, half, "next")
            return many + half if other is None else self.place(other)
        before = present(self.case, stage, half, "prev")
        if before is None:
            return many + half
        if before >= FIRST_MADE:
            return self.place(before ^ 1)
        twins = self.case.links["twin"]
        if before in twins:
            return twins[before]
        # The twin was not met, so it is the first half on the way around the
        # corner of the half that was behind at the start.
        return many + self.case.links["next"][before]


def present(case, stage, half, link):
    """Return the half to which a link leads at a stage, or None if that was not met."""
    written = stage.written[link]
    if half in written:
        return written[half]
    return case.links[link].get(half)


def round_numbers(table):
    """Return the list of the numbers of the rounds in a table, None for places that are not there."""
    numbers = [None] * len(table)
    count = 0
    for start, other in enumerate(table):
        if other is not None and numbers[start] is None:
            place = start
            while numbers[place] is None:
                numbers[place] = count
                place = table[place]
            count += 1
    return numbers
