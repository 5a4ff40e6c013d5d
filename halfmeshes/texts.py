"""Names, and routines that are read from their texts."""

from halfmeshes.errors import BadLine, UnknownName, WrongKind
from halfmeshes.lines import HALF, Step, is_word, read_step

RESERVED = (
    "routine", "script", "given", "let", "make", "drop", "if", "else", "end", "new", "round",
    "tell", "call", "next", "prev", "twin", "face", "corner", "some",
)
DIGITS = "0123456789"
MOST_HALVES = 3
MOST_LINES = 60
MOST_BLOCKS = 3
AHEAD_OF_LABELS = ("let", "make", "link")
LABEL_ACTIONS = ("new", "label", "round", "some")


def is_name(text):
    """Tell whether a text is a name."""
    return is_word(text) and text[0] not in DIGITS and text not in RESERVED


class Routine:
    """A routine that was read; it never changes.

    `steps` and `jumps` have an entry for each line. That of `jumps` is, for an
    `if` or `else`, the index of the line where the run goes on if the lines
    behind it are left out, and otherwise None.
    """

    def __init__(self, name, halves, lines, steps, jumps):
        self.name = name
        self.halves = tuple(halves)
        self.told = told_names(steps)
        self.lines = tuple(lines)
        self.steps = tuple(steps)
        self.jumps = tuple(jumps)

    def __len__(self):
        return len(self.lines)


class Scope:
    """The names that are known at a place of a deed, with their kinds."""

    def __init__(self, halves):
        self.kinds = {name: HALF for name in halves}

    def can_bind(self, names):
        """Tell whether these may be the new names of one line."""
        if len(set(names)) != len(names):
            return False
        return all([is_name(name) and name not in self.kinds for name in names])

    def check_uses(self, step, number):
        """Raise the error for the first name that a line must not use so."""
        for name, kinds in step.uses:
            if name not in self.kinds:
                raise UnknownName(number, name)
            if self.kinds[name] not in kinds:
                raise WrongKind(number, name)

    def bind(self, step):
        """Make the new names of a line known."""
        for name in step.news:
            self.kinds[name] = step.kind


class Block:
    """An open block: its last jump, and the names that are known around it."""

    def __init__(self, kinds, at):
        self.kinds = kinds
        self.at = at
        self.has_else = False


class Draft:
    """A routine as far as it was read."""

    def __init__(self, halves):
        self.scope = Scope(halves)
        self.steps = [Step("routine")]
        self.jumps = [None]
        self.blocks = []
        self.has_labels = False


def read_routine(text):
    """Return the routine of a text."""
    return routine_of(text.split("\n"), 1, {})


def routine_of(lines, first, used):
    """Return the routine of some lines, counted from `first` on.

    Its name must not be among those of the dict `used`.
    """
    name, halves = read_head("routine", lines[0], first, used)
    draft = Draft(halves)
    for at in range(1, len(lines)):
        _add_line(draft, lines[at], first + at, at + 1 == len(lines))
    if draft.blocks:
        raise BadLine(first + len(lines))
    return Routine(name, halves, lines, draft.steps, draft.jumps)


def read_head(word, line, number, used):
    """Return the name and the halves in the first line of a deed."""
    words = line.split(" ")
    names = words[1:]
    if words[0] != word or not 2 <= len(names) <= MOST_HALVES + 1:
        raise BadLine(number)
    name, *halves = names
    if not is_name(name) or name in used or not Scope([]).can_bind(halves):
        raise BadLine(number)
    return name, halves


def told_names(steps):
    """Return the names in the tell line, if there is one."""
    if steps[-1].action != "tell":
        return ()
    return steps[-1].used


def _add_line(draft, line, number, is_last):
    """Add one more line to a draft."""
    step = read_step(line)
    if step is None or len(draft.steps) > MOST_LINES:
        raise BadLine(number)
    if not draft.scope.can_bind(step.news) or not _may_stand(draft, step, is_last):
        raise BadLine(number)
    draft.scope.check_uses(step, number)
    _check_labels(draft, step, number)
    _open_or_close(draft, step)
    draft.scope.bind(step)
    draft.steps.append(step)
    draft.jumps.append(None)


def _may_stand(draft, step, is_last):
    """Tell whether a line of this form may stand behind a draft."""
    if step.action == "given":
        return draft.steps[-1].action in ("routine", "given")
    if step.action == "tell":
        return is_last and not draft.blocks
    if step.action == "if":
        return len(draft.blocks) < MOST_BLOCKS and not (draft.has_labels and _has_path(step.detail))
    if step.action == "else":
        return bool(draft.blocks) and not draft.blocks[-1].has_else
    if step.action == "end":
        return bool(draft.blocks)
    if step.action in AHEAD_OF_LABELS:
        return not draft.has_labels
    return step.action != "call"


def _has_path(condition):
    """Tell whether a condition asks for more than two names."""
    paths = (condition.left, condition.right)
    return any([path.kind != HALF or len(path.links) > 0 for path in paths])


def _check_labels(draft, step, number):
    """Note a label line, behind which no half may be dropped."""
    is_label_line = step.action in LABEL_ACTIONS
    if step.action == "drop":
        is_label_line = draft.scope.kinds[step.used[0]] != HALF
        if draft.has_labels and not is_label_line:
            raise BadLine(number)
    draft.has_labels = draft.has_labels or is_label_line


def _open_or_close(draft, step):
    """Open or close a part of a block, if a line does so."""
    at = len(draft.steps)
    if step.action == "if":
        draft.blocks.append(Block(dict(draft.scope.kinds), at))
    elif step.action == "else":
        block = draft.blocks[-1]
        draft.jumps[block.at] = at + 1
        draft.scope.kinds = dict(block.kinds)
        block.at = at
        block.has_else = True
    elif step.action == "end":
        block = draft.blocks.pop()
        draft.jumps[block.at] = at + 1
        draft.scope.kinds = block.kinds
