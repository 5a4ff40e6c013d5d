"""Judging the labels that a routine leaves, for one row of ways."""


class Labels:
    """The labels that places bear while the label lines of a routine are executed.

    `old` and `new` are the numbers of the rounds when the routine began and at
    its end. The labels of the start have the numbers of the rounds.
    """

    def __init__(self, old, table, new):
        self.old = old
        self.table = table
        self.new = new
        self.borne = old + [None] * (len(table) - len(old))
        self.kept = {label: True for label in old if label is not None}
        self.some = {}

    def execute(self, action, place, label):
        """Execute a label line, and tell whether it can be executed."""
        if action == "new":
            self.kept[label] = True
        if label not in self.kept:
            return False
        if action == "drop":
            del self.kept[label]
        elif action == "some":
            self.some[label] = place
        elif action != "new":
            self.borne[place] = label
            if action == "round":
                self._write_round(place, label)
        return True

    def _write_round(self, start, label):
        """Write the labels of all places of a round."""
        place = self.table[start]
        while place != start:
            self.borne[place] = label
            place = self.table[place]

    def are_right(self):
        """Tell whether the labels are right at the end."""
        places = [place for place, number in enumerate(self.new) if number is not None]
        of_rounds = {self.new[place]: self.borne[place] for place in places}
        if any([self.borne[place] != of_rounds[self.new[place]] for place in places]):
            return False
        # So far each round has one label; now each label must have one round.
        labels = list(of_rounds.values())
        if len(set(labels)) < len(labels) or set(labels) != set(list(self.kept)):
            return False
        return all([self._is_right(label) for label in labels])

    def _is_right(self, label):
        """Tell whether the half to which a label refers bears it."""
        if label in self.some:
            return self._bears(self.some[label], label)
        bearers = [place for place, number in enumerate(self.old) if number == label]
        return len(bearers) > 0 and all([self._bears(place, label) for place in bearers])

    def _bears(self, place, label):
        """Tell whether a place is there at the end and bears a label."""
        return self.new[place] is not None and self.borne[place] == label


def are_right(rounds, span, row):
    """Tell whether a routine leaves right labels of faces or corners, with a row of ways."""
    old = rounds.numbers_at(span.since, row)
    table = rounds.table_at(span.until, row)
    labels = Labels(old, table, rounds.numbers_at(span.until, row))
    for action, half, origin, number in span.label_lines[rounds.kind]:
        place = None if half is None else rounds.place(half)
        # Labels of the start have numbers from 0 on.
        label = old[rounds.place(number)] if origin == "old" else -1 - number
        if not labels.execute(action, place, label):
            return False
    return labels.are_right()
