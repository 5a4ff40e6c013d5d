"""The forms of single lines and conditions, wherever they stand."""

HALF = "half"
HALVES = ("half",)
LABELS = ("face", "corner")
ALL_KINDS = ("half", "face", "corner")
LINKS = ("next", "prev", "twin")
WRITTEN_LINKS = ("next", "prev")
MOST_LINKS = 4
MOST_TOLD = 3
MOST_SIGNS = 8
SIGNS = "abcdefghijklmnopqrstuvwxyz0123456789"


class Path:
    """The way from a named half by links, to a half or to one of its labels."""

    def __init__(self, name, links, kind):
        self.name = name
        self.links = links
        self.kind = kind


class Condition:
    """Two paths to the same kind, whose ends are to be equal or different."""

    def __init__(self, left, equal, right):
        self.left = left
        self.equal = equal
        self.right = right


class Step:
    """What a line says: what it does, the names it binds, and those it uses.

    `kind` is the kind of the new names, or of the label that is written. Each
    use is a tuple of a name and the kinds that it may have; `used` are these
    names alone.
    """

    def __init__(self, action, news=(), kind=HALF, uses=(), detail=None):
        self.action = action
        self.news = news
        self.kind = kind
        self.uses = uses
        self.used = tuple([use[0] for use in uses])
        self.detail = detail


def is_word(text):
    """Tell whether a text may stand in the place of a name that is used."""
    return 1 <= len(text) <= MOST_SIGNS and all([sign in SIGNS for sign in text])


def are_words(texts):
    """Tell whether all texts may stand in the place of names that are used."""
    return all([is_word(text) for text in texts])


def read_path(text):
    """Return the path that a text is, or None."""
    name, *links = text.split(".")
    kind = HALF
    if links and links[-1] in LABELS:
        kind = links.pop()
    if not is_word(name) or len(links) > MOST_LINKS or not all([link in LINKS for link in links]):
        return None
    return Path(name, tuple(links), kind)


def read_condition(words):
    """Return the condition that some words are, or None."""
    if len(words) != 3 or words[1] not in ("==", "!="):
        return None
    left = read_path(words[0])
    right = read_path(words[2])
    if left is None or right is None or left.kind != right.kind:
        return None
    return Condition(left, words[1] == "==", right)


def read_step(line):
    """Return what a line says, or None if it has no form of a line at all."""
    words = line.split(" ")
    if words[0] in FORMS:
        form = FORMS[words[0]]
        return form(words)
    return _read_write(words)


def _read_asking(words):
    """Return what a line with `given` or `if` says, or None."""
    condition = read_condition(words[1:])
    if condition is None:
        return None
    names = [condition.left.name, condition.right.name]
    return Step(words[0], uses=_used_halves(names), detail=condition)


def _read_let(words):
    """Return what a line with `let` says, or None."""
    if len(words) != 4 or words[2] != "=":
        return None
    path = read_path(words[3])
    if path is None:
        return None
    return Step("let", news=(words[1],), kind=path.kind, uses=_used_halves([path.name]), detail=path)


def _read_make(words):
    """Return what a line with `make` says, or None."""
    if len(words) != 3:
        return None
    return Step("make", news=(words[1], words[2]))


def _read_drop(words):
    """Return what a line with `drop` says, or None."""
    if len(words) != 2 or not is_word(words[1]):
        return None
    return Step("drop", uses=((words[1], ALL_KINDS),))


def _read_bare(words):
    """Return what a line with `else` or `end` says, or None."""
    if len(words) != 1:
        return None
    return Step(words[0])


def _read_new(words):
    """Return what a line with `new` says, or None."""
    if len(words) != 3 or words[1] not in LABELS:
        return None
    return Step("new", news=(words[2],), kind=words[1])


def _read_round(words):
    """Return what a line with `round` says, or None."""
    step = _read_write(words[1:])
    if step is None or step.action != "label":
        return None
    return Step("round", kind=step.kind, uses=step.uses)


def _read_tell(words):
    """Return what a line with `tell` says, or None."""
    names = words[1:]
    if not 1 <= len(names) <= MOST_TOLD or not are_words(names):
        return None
    return Step("tell", uses=_used_halves(names))


def _read_call(words):
    """Return what a line with `call` says, or None."""
    news = []
    names = words[1:]
    if "=" in names:
        at = names.index("=")
        news = names[:at]
        names = names[at + 1:]
        if not news:
            return None
    if len(names) < 2 or not are_words(names):
        return None
    return Step("call", news=tuple(news), uses=_used_halves(names[1:]), detail=names[0])


def _read_write(words):
    """Return what a line that writes a link or a label says, or None."""
    if len(words) != 3 or words[1] != "=":
        return None
    parts = words[0].split(".")
    if len(parts) != 2 or not are_words([parts[0], words[2]]):
        return None
    name, what = parts
    if what in WRITTEN_LINKS:
        return Step("link", uses=_used_halves([name, words[2]]), detail=what)
    if what in LABELS:
        return Step("label", kind=what, uses=((name, HALVES), (words[2], (what,))))
    if what == "some":
        return Step("some", uses=((name, LABELS), (words[2], HALVES)))
    return None


def _used_halves(names):
    """Return the uses of names that must be names of halves."""
    return tuple([(name, HALVES) for name in names])


FORMS = {
    "given": _read_asking,
    "if": _read_asking,
    "let": _read_let,
    "make": _read_make,
    "drop": _read_drop,
    "else": _read_bare,
    "end": _read_bare,
    "new": _read_new,
    "round": _read_round,
    "tell": _read_tell,
    "call": _read_call,
}
