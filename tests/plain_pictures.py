"""Points 30 and 31, written down in the plainest way: what a run reads of its mesh."""

from tests import plain

BACK = {"next": "prev", "prev": "next", "twin": "twin"}


class Links(dict):
    """The links and labels of a half, and which of them were written."""

    def __init__(self, links):
        super().__init__(links)
        self.written = set()

    def __setitem__(self, key, value):
        super().__setitem__(key, value)
        self.written.add(key)


class Seen(plain.Plain):
    """Halves that note what is read of them."""

    def __init__(self, nexts, lines, halves):
        super().__init__(nexts)
        self.halves = {half: Links(one) for half, one in self.halves.items()}
        self.start = dict(self.halves)
        self.lines = lines
        self.met = list(dict.fromkeys(halves))
        self.known = {}
        self.reads = []
        self.checked = []

    def read(self, half, link):
        """Note that a link is looked at, if it is one of the start and not known."""
        if half in self.start and link in BACK and link not in self.start[half].written:
            if (half, link) not in self.known:
                other = self.start[half][link]
                if other not in self.met:
                    self.met.append(other)
                self.known[half, link] = other
                self.known[other, BACK[link]] = half
                self.reads.append((self.met.index(half), link, self.met.index(other)))

    def value(self, path, meanings, line):
        name, *links = path.split(".")
        half = super().value(name, meanings, line)
        for link in links:
            self.read(half, link)
            half = super().value("it." + link, {"it": half}, line)
        if self.lines[line - 1].startswith("drop "):
            self.read(half, "twin")
        return half

    def holds(self, words, meanings, line):
        found = super().holds(words, meanings, line)
        if self.lines[line - 1].startswith("if ") and words[0].endswith((".face", ".corner")):
            self.checked.append(found)
        return found


def plain_picture(lines, nexts, halves):
    """The picture of a run, or the name and the line of the error if a fact fails."""
    state = Seen(nexts, lines, halves)
    try:
        plain.perform(state, lines, halves)
    except plain.Stop as stop:
        if stop.args[0] == "FactFails":
            return stop.args
    return ([state.met.index(half) for half in halves], state.reads, state.checked)
