"""Texts, meshes and changes of texts that are drawn, the same ones in each run of the tests."""

from tests import helpers, plain, samples


class Draws:
    """Numbers that depend on the seed alone."""

    def __init__(self, seed):
        self.state = (seed * 2654435761 + 97) % 2 ** 32

    def below(self, many):
        self.state = (1664525 * self.state + 1013904223) % 2 ** 32
        return (self.state >> 8) * many >> 24

    def pick(self, members):
        return members[self.below(len(members))]

    def chance(self, one, of):
        return self.below(of) < one


def draw_mesh(draws):
    """The links of a mesh, mostly with few edges, and sometimes with 30."""
    edges = 30 if draws.chance(1, 25) else 1 + draws.below(6)
    pick = draws.pick((helpers.scattered_nexts, helpers.pieced_nexts))
    return pick(edges, draws.below(10 ** 6))


def draw_halves(draws, nexts, many):
    """Halves of a mesh; they lie often together and are sometimes equal."""
    halves = [draws.below(len(nexts))]
    while len(halves) < many:
        near = halves[-1]
        halves.append(draws.pick([draws.below(len(nexts)), nexts[near], nexts.index(near), near ^ 1,
                                  near, draws.below(len(nexts))]))
    return halves


NAMES = "a b c d e f ab abc n1 nexts x9 fac".split()
LINKS = ("next", "prev", "twin")


class DrawnRoutine:
    """A routine whose lines are drawn freely, so that each may stand where it stands."""

    def __init__(self, draws, many):
        self.draws = draws
        self.halves = NAMES[:1 + draws.below(3)]
        self.scopes = [{name: "half" for name in self.halves}]
        self.elses = []
        self.has_labels = False
        self.lines = ["routine drawn " + " ".join(self.halves)]
        for _ in range(draws.pick((0, 0, 0, 0, 1, 1, 2))):
            self.lines.append("given " + self.condition())
        # A number of lines ahead of all label lines, and one of those behind.
        for at in range(many):
            if len(self.lines) < 48:
                self.add(at >= many * 2 // 3)
        while self.elses:
            self.close()
        if draws.chance(1, 2):
            told = [self.known("half") for _ in range(1 + draws.below(3))]
            self.lines.append("tell " + " ".join(told))

    def names(self, kind):
        return [name for scope in self.scopes for name in scope if scope[name] == kind]

    def known(self, kind):
        return self.draws.pick(self.names(kind))

    def new(self):
        known = [name for scope in self.scopes for name in scope]
        free = [name for name in NAMES + [f"z{at}" for at in range(60)] if name not in known]
        return self.draws.pick(free[:3])

    def path(self):
        links = [self.draws.pick(LINKS) for _ in range(self.draws.pick((0, 0, 1, 1, 1, 2, 3, 4)))]
        return ".".join([self.known("half")] + links)

    def condition(self):
        label = self.draws.pick(("", "", "", ".face", ".corner"))
        return f"{self.path()}{label} {self.draws.pick(('==', '!='))} {self.path()}{label}"

    def close(self):
        self.scopes.pop()
        if not self.elses[-1] and self.draws.chance(1, 2):
            self.elses[-1] = True
            self.scopes.append({})
            self.lines.append("else")
        else:
            self.elses.pop()
            self.lines.append("end")

    def open(self):
        plain = f"{self.known('half')} {self.draws.pick(('==', '!='))} {self.known('half')}"
        self.lines.append("if " + (plain if self.has_labels else self.condition()))
        self.scopes.append({})
        self.elses.append(False)

    def bind(self, kind):
        name = self.new()
        self.scopes[-1][name] = kind
        return name

    def add(self, with_labels):
        if self.elses and self.draws.chance(1, 5):
            self.close()
        elif len(self.elses) < 3 and self.draws.chance(1, 9):
            self.open()
        elif with_labels:
            self.add_label_line()
        elif not self.has_labels:
            self.add_line_on_halves()

    def add_line_on_halves(self):
        what = self.draws.pick(("let", "let", "label", "label", "make", "swap", "swap", "link", "drop"))
        if what == "let":
            path = self.path()
            self.lines.append(f"let {self.bind('half')} = {path}")
        elif what == "label":
            kind, path = self.draws.pick(("face", "corner")), self.path()
            self.lines.append(f"let {self.bind(kind)} = {path}.{kind}")
        elif what == "make":
            self.add_edge()
        elif what == "swap":
            self.add_swap()
        elif what == "link":
            link = self.draws.pick(("next", "prev"))
            self.lines.append(f"{self.known('half')}.{link} = {self.known('half')}")
        elif self.draws.chance(1, 3):
            self.lines.append(f"drop {self.known('half')}")

    def add_edge(self):
        """An edge with its links: a piece of its own or one at a corner."""
        at = self.known("half")
        p, q = self.bind("half"), self.bind("half")
        self.lines.append(f"make {p} {q}")
        pairs = [(p, q), (q, p)]
        if self.draws.chance(2, 3):
            before = self.bind("half")
            self.lines.append(f"let {before} = {at}.prev")
            pairs = [(before, p), (p, q), (q, at)]
        self.write(pairs)

    def add_swap(self):
        """The next halves of two halves, exchanged."""
        a, b = self.known("half"), self.known("half")
        c, d = self.bind("half"), self.bind("half")
        self.lines.append(f"let {c} = {a}.next")
        self.lines.append(f"let {d} = {b}.next")
        self.write([(a, d), (b, c)])

    def write(self, pairs):
        for one, other in pairs:
            self.lines.append(f"{one}.next = {other}")
            self.lines.append(f"{other}.prev = {one}")

    def add_label_line(self):
        kind = self.draws.pick(("face", "corner"))
        what = self.draws.pick(("new", "new", "label", "round", "round", "some", "some", "drop"))
        self.has_labels = self.has_labels or what == "new" or bool(self.names(kind))
        if what == "new":
            self.lines.append(f"new {kind} {self.bind(kind)}")
        elif not self.names(kind):
            return
        elif what == "label":
            self.lines.append(f"{self.known('half')}.{kind} = {self.known(kind)}")
        elif what == "round":
            self.lines.append(f"round {self.known('half')}.{kind} = {self.known(kind)}")
        elif what == "some":
            self.lines.append(f"{self.known(kind)}.some = {self.known('half')}")
        else:
            self.lines.append(f"drop {self.known(kind)}")


def drawn_routine(seed, many=None):
    """The lines of a routine that are drawn freely."""
    draws = Draws(seed)
    return DrawnRoutine(draws, draws.below(24) if many is None else many).lines


CONDITIONS = ("a == a", "a != a", "a.face == a.face", "a.corner != a.next.corner", "a.next == a")


def changed_lines(draws, lines):
    """The lines with one of them left out, doubled, exchanged, or with another word."""
    lines = list(lines)
    if len(lines) < 2:
        return lines
    at = 1 + draws.below(len(lines) - 1)
    other = draws.below(len(lines))
    what = draws.pick(("out", "out", "double", "exchange", "move", "name", "name", "link", "condition",
                       "block"))
    if what == "out":
        del lines[at]
    elif what == "double":
        lines.insert(other, lines[at])
    elif what == "exchange":
        lines[at], lines[other] = lines[other], lines[at]
    elif what == "move":
        lines.insert(other, lines.pop(at))
    elif what == "block":
        lines.insert(at, draws.pick(("if " + draws.pick(CONDITIONS), "else", "end", "given a == a")))
    elif what == "condition" and lines[at].startswith(("given", "if")):
        lines[at] = lines[at].split(" ")[0] + " " + draws.pick(CONDITIONS)
    elif what == "link":
        lines[at] = with_other_word(draws, lines[at], LINKS, LINKS)
    else:
        names = samples.names_in("\n".join(lines))
        lines[at] = with_other_word(draws, lines[at], names, names)
    return lines


def with_other_word(draws, line, old, new):
    """The line with another word in the place of one of those."""
    parts = line.replace(".", " . ").split(" ")
    places = [at for at, part in enumerate(parts) if part in old]
    if places:
        parts[draws.pick(places)] = draws.pick(new)
    return " ".join(parts).replace(" . ", ".")


ODD_WORDS = ("", "A", "a_b", "ninechars", "1", "9a", "zz", "face", "routine", "=", "==", "!=", "a.",
             ".a", "a..next", "a.next.next.next.next.next", "a.next.next.next.next", "a.face",
             "a.corner.next", "a.some", "a.twin", "some", "a b", " ", "tell", "end", "new", "call")


def damaged_text(draws, text):
    """The text with something wrong in it, at one or two places."""
    for _ in range(1 + draws.below(2)):
        lines = text.split("\n")
        at = draws.below(len(lines))
        what = draws.below(9)
        if what < 3:
            lines = changed_lines(draws, lines)
        elif what < 6:
            words = lines[at].split(" ")
            words[draws.below(len(words))] = draws.pick(ODD_WORDS)
            lines[at] = " ".join(words)
        elif what == 6:
            lines[at] = draws.pick(("", " ", lines[at] + " ", " " + lines[at], lines[at] + " a",
                                    lines[at].replace(" ", "  ", 1), lines[at].upper()))
        elif what == 7:
            lines = lines[:at] + [draws.pick(("", "tell a", "drop a", "call a a", "if a == a", "x"))] + lines[at:]
        else:
            lines = lines[:at + 1]
        text = "\n".join(lines)
    return text


def drawn_script(draws, name, above):
    """The lines of a script that may call the routines above, with mostly few facts."""
    known = NAMES[:1 + draws.below(3)]
    lines = [f"script {name} " + " ".join(known)]
    routines = [one for one in above if above[one][0].startswith("routine ")]

    def path():
        links = [draws.pick(LINKS) for _ in range(draws.below(5))]
        return ".".join([draws.pick(known)] + links)

    for _ in range(draws.pick((0, 0, 0, 1))):
        label = draws.pick(("", ".face", ".corner"))
        lines.append(f"given {path()}{label} {draws.pick(('==', '!='))} {path()}{label}")
    # At most 19 lines here, so that a tell line may follow.
    for at in range(min(draws.below(8) if draws.chance(4, 5) else 19, 20 - len(lines))):
        if draws.chance(1, 4) or not routines:
            lines.append(f"let s{at} = {path()}")
            known = known + [f"s{at}"]
            continue
        called = draws.pick(routines)
        many = len(above[called][0].split(" ")) - 2
        halves = " ".join(draws.pick(known) for _ in range(many))
        told = plain.told_by(above[called])
        if told and draws.chance(2, 3):
            new = [f"t{at}x{place}" for place in range(len(told))]
            lines.append(f"call {' '.join(new)} = {called} {halves}")
            known = known + new
        else:
            lines.append(f"call {called} {halves}")
    if draws.chance(2, 3):
        lines.append("tell " + " ".join(draws.pick(known) for _ in range(1 + draws.below(3))))
    return lines


# Routines that can be called for most halves, so that scripts come far.
EASY = ("spur", "halve", "sort", "show", "plain", "join", "bridge", "swapio", "merge", "cut")


def drawn_book(seed):
    """The lines of each deed of a book: one to four routines, some of them changed, and scripts."""
    draws = Draws(seed)
    deeds = {}
    for _ in range(1 + draws.below(4)):
        name = draws.pick(EASY) if draws.chance(3, 4) else draws.pick(list(samples.RIGHT))
        lines = samples.RIGHT[name].split("\n")
        if draws.chance(1, 2):
            lines = [line for line in lines if not line.startswith("given ")]
        if draws.chance(1, 6):
            changed = changed_lines(draws, lines)
            if plain.fault_of_routine("\n".join(changed)) is None:
                lines = changed
        name = lines[0].split(" ")[1]
        if name not in deeds:
            deeds[name] = lines
        while draws.chance(1, 2):
            name = f"do{len(deeds)}"
            deeds[name] = drawn_script(draws, name, deeds)
    name = f"do{len(deeds)}"
    deeds[name] = drawn_script(draws, name, deeds)
    return deeds


def book_text(deeds):
    return "\n\n".join("\n".join(lines) for lines in deeds.values())


CHAINED = ("join", "bridge", "spur", "halve", "merge", "cut", "prune", "erase", "swapii", "swapoo", "swapio", "swapoi")


def drawn_chain(seed):
    """The halves and the lines of a script that calls some routines, mostly with the facts of the first one."""
    draws = Draws(seed)
    known = NAMES[:1 + draws.below(2)]
    heads = {name: samples.RIGHT[name].split("\n")[0].split(" ")[2:] for name in CHAINED}
    halves, lines = " ".join(known), []
    for at in range(1 + draws.below(4)):
        name = draws.pick([one for one in CHAINED if at or len(heads[one]) == len(known)])
        if at == 0:
            facts = [line for line in samples.RIGHT[name].split("\n") if line.startswith("given ")]
            if facts and draws.chance(1, 3):
                facts.remove(draws.pick(facts))
            lines += facts
        passed = known if at == 0 else [draws.pick(known) for _ in heads[name]]
        told = plain.told_by(samples.RIGHT[name].split("\n"))
        new = [f"t{at}x{place}" for place in range(len(told))]
        lines.append(" ".join(["call"] + new + ["="] * bool(new) + [name] + passed))
        known = known + new
    return [halves] + lines
