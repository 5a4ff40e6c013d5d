"""Points 14 to 25, written down in the plainest way: what is wrong in a text, and what a run does.

Nothing here comes from the package. `fault_of_routine` and `fault_of_book` return None or a
tuple of the name of the error and its values; `plain_run` returns a tuple, too.
"""

import re

WORDS = ("routine script given let make drop if else end new round tell call next prev twin face "
         "corner some").split()
WORD = "[a-z0-9]{1,8}"
NEW = "[^ =]*"
PATH = rf"(?:{WORD})(?:\.(?:next|prev|twin)){{0,4}}"
COND = "|".join(rf"{PATH}{label} [=!]= {PATH}{label}" for label in ("", r"\.face", r"\.corner"))
FORMS = {
    "given": rf"given (?:{COND})",
    "let": rf"let ({NEW}) = {PATH}(\.face|\.corner)?",
    "make": rf"make ({NEW}) ({NEW})",
    "link": rf"({WORD})\.(?:next|prev) = ({WORD})",
    "drop": rf"drop ({WORD})",
    "if": rf"if (?:{COND})",
    "else": "else",
    "end": "end",
    "new": rf"new (?:face|corner) ({NEW})",
    "label": rf"({WORD})\.(?:face|corner) = ({WORD})",
    "round": rf"round ({WORD})\.(?:face|corner) = ({WORD})",
    "some": rf"({WORD})\.some = ({WORD})",
    "tell": rf"tell {WORD}(?: {WORD}){{0,2}}",
    "call": rf"call (?:{NEW}(?: {NEW})* = )?{WORD}(?: {WORD})+",
}
HALF, FACE, CORNER = "half", "face", "corner"


class Wrong(Exception):
    """What is wrong in a text."""


def plain_is_name(text):
    return re.fullmatch("[a-z][a-z0-9]{0,7}", text) is not None and text not in WORDS


def form_of(line):
    found = [form for form in FORMS if re.fullmatch(FORMS[form], line)]
    assert len(found) < 2, (line, found)
    return found[0] if found else None


def first_name(path):
    return path.split(".")[0]


def end_of(path):
    last = path.split(".")[-1]
    return last if "." in path and last in (FACE, CORNER) else HALF


def new_names(form, line):
    """The new names of a line with their kinds."""
    words = line.split(" ")
    if form == "let":
        return [(words[1], end_of(words[3]))]
    if form == "make":
        return [(words[1], HALF), (words[2], HALF)]
    if form == "new":
        return [(words[2], words[1])]
    if form == "call" and "=" in words:
        return [(word, HALF) for word in words[1:words.index("=")]]
    return []


def used_names(form, line):
    """The names that a line uses, from left to right, with the kinds that they may have."""
    words = line.split(" ")
    if form in ("given", "if"):
        return [(first_name(words[1]), HALF), (first_name(words[3]), HALF)]
    if form == "let":
        return [(first_name(words[3]), HALF)]
    if form == "drop":
        return [(words[1], (HALF, FACE, CORNER))]
    if form == "tell":
        return [(word, HALF) for word in words[1:]]
    if form == "call":
        behind = words[words.index("=") + 1:] if "=" in words else words[1:]
        return [(word, HALF) for word in behind[1:]]
    if form in ("link", "label", "round", "some"):
        name, what = words[-3].split(".")
        kinds = {"next": (HALF, HALF), "prev": (HALF, HALF), "face": (HALF, FACE),
                 "corner": (HALF, CORNER), "some": ((FACE, CORNER), HALF)}[what]
        return [(name, kinds[0]), (words[-1], kinds[1])]
    return []


def check_head(word, line, number, above):
    words = line.split(" ")
    right = (words[0] == word and 3 <= len(words) <= 5 and all(map(plain_is_name, words[1:]))
             and len(set(words[2:])) == len(words[2:]) and words[1] not in above)
    if not right:
        raise Wrong("BadLine", number)
    return words[1], words[2:]


def check_names(form, line, number, scopes):
    for name, kinds in used_names(form, line):
        found = [scope[name] for scope in scopes if name in scope]
        if not found:
            raise Wrong("UnknownName", number, name)
        if found[0] != kinds and found[0] not in kinds:
            raise Wrong("WrongKind", number, name)


def check_new_names(form, line, number, scopes):
    names = [name for name, _ in new_names(form, line)]
    known = [name for scope in scopes for name in scope]
    if not all(map(plain_is_name, names)) or set(names) & set(known) or len(set(names)) < len(names):
        raise Wrong("BadLine", number)


def check_routine(lines, first, above):
    _, halves = check_head("routine", lines[0], first, above)
    scopes, elses = [{name: HALF for name in halves}], []
    has_labels, only_facts = False, True
    for at, line in enumerate(lines):
        if at == 0:
            continue
        number, form = first + at, form_of(line)
        bad = form in (None, "call") or at > 60
        bad = bad or form == "given" and not only_facts
        bad = bad or form == "tell" and (at < len(lines) - 1 or len(scopes) > 1)
        bad = bad or form == "if" and len(scopes) > 3
        bad = bad or form in ("else", "end") and len(scopes) == 1
        bad = bad or form == "else" and elses[-1]
        bad = bad or has_labels and form in ("let", "make", "link")
        bad = bad or has_labels and form == "if" and "." in line
        if bad:
            raise Wrong("BadLine", number)
        check_new_names(form, line, number, scopes)
        check_names(form, line, number, scopes)
        if form == "drop":
            kind = [scope[line[5:]] for scope in scopes if line[5:] in scope][0]
            if has_labels and kind == HALF:
                raise Wrong("BadLine", number)
            has_labels = has_labels or kind != HALF
        has_labels = has_labels or form in ("new", "label", "round", "some")
        only_facts = only_facts and form == "given"
        if form in ("else", "end"):
            scopes.pop()
        if form in ("if", "else"):
            scopes.append({})
        if form == "if":
            elses.append(False)
        elif form == "else":
            elses[-1] = True
        elif form == "end":
            elses.pop()
        scopes[-1].update(new_names(form, line))
    if len(scopes) > 1:
        raise Wrong("BadLine", first + len(lines))


def told_by(lines):
    return lines[-1].split(" ")[1:] if lines[-1].startswith("tell ") else []


def check_script(lines, first, above):
    _, halves = check_head("script", lines[0], first, above)
    scopes, only_facts = [{name: HALF for name in halves}], True
    for at, line in enumerate(lines):
        if at == 0:
            continue
        number, form = first + at, form_of(line)
        bad = form not in ("given", "let", "tell", "call") or at > 20
        bad = bad or form == "given" and not only_facts
        bad = bad or form == "tell" and at < len(lines) - 1
        bad = bad or form == "let" and end_of(line.split(" ")[3]) != HALF
        if bad:
            raise Wrong("BadLine", number)
        check_new_names(form, line, number, scopes)
        if form == "call":
            words = line.split(" ")
            called = words[words.index("=") + 1] if "=" in words else words[1]
            if called not in above or not above[called][0].startswith("routine "):
                raise Wrong("UnknownName", number, called)
            if len(used_names(form, line)) != len(above[called][0].split(" ")) - 2:
                raise Wrong("BadLine", number)
            if "=" in words and words.index("=") - 1 != len(told_by(above[called])):
                raise Wrong("BadLine", number)
        check_names(form, line, number, scopes)
        only_facts = only_facts and form == "given"
        scopes[0].update(new_names(form, line))


def deeds_of(text):
    """The lines of each deed of a book by its name; raises Wrong."""
    lines = text.split("\n")
    above, at = {}, 0
    while at < len(lines):
        until = at
        while until < len(lines) and lines[until] != "":
            until += 1
        if until == at:
            raise Wrong("BadLine", at + 1)
        part = lines[at:until]
        if part[0].split(" ")[0] == "script":
            check_script(part, at + 1, above)
        else:
            check_routine(part, at + 1, above)
        above[part[0].split(" ")[1]] = part
        if until < len(lines) and (until == len(lines) - 1 or lines[until + 1] == ""):
            raise Wrong("BadLine", until + 1)
        at = until + 1
    return above


def fault_of_routine(text):
    try:
        check_routine(text.split("\n"), 1, {})
    except Wrong as wrong:
        return wrong.args
    return None


def fault_of_book(text):
    try:
        deeds_of(text)
    except Wrong as wrong:
        return wrong.args
    return None


# Running.

class Stop(Exception):
    """A run that ends without an outcome."""


class Plain:
    """Halves under names that never change: each is a dict with its links and labels."""

    def __init__(self, nexts):
        self.halves = {half: {"next": other, "prev": nexts.index(half), "twin": half ^ 1}
                       for half, other in enumerate(nexts)}
        self.made = len(nexts)

    def orbit(self, start, kind):
        found = [start]
        while True:
            one = self.halves[found[-1]]
            other = one["next"] if kind == FACE else self.halves[one["prev"]]["twin"]
            if other == start:
                return found
            found.append(other)

    def set_labels(self):
        """Give the labels of the start; returns the labels and who bore them."""
        labels = {}
        for kind in (FACE, CORNER):
            for half in self.halves:
                self.halves[half][kind] = (kind, min(self.orbit(half, kind)))
            for half in self.halves:
                labels.setdefault(self.halves[half][kind], []).append(half)
        return labels

    def links_right(self):
        for half, one in self.halves.items():
            if one["next"] not in self.halves or one["prev"] not in self.halves:
                return False
            if self.halves[one["next"]]["prev"] != half or self.halves[one["prev"]]["next"] != half:
                return False
        return True

    def value(self, path, meanings, line):
        name, *links = path.split(".")
        half = meanings[name]
        if half not in self.halves:
            raise Stop("Broken", "dead", line)
        for link in links:
            half = self.halves[half][link]
            if half is None:
                raise Stop("Broken", "unset", line)
            if link in ("next", "prev") and half not in self.halves:
                raise Stop("Broken", "dead", line)
        return half

    def holds(self, words, meanings, line):
        left = self.value(words[0], meanings, line)
        right = self.value(words[2], meanings, line)
        return (left == right) == (words[1] == "==")


def other_part(lines, at):
    """The place of the else or end that ends the part of a block that begins at a place."""
    depth = 0
    while True:
        at += 1
        word = lines[at].split(" ")[0]
        if depth == 0 and word in ("else", "end"):
            return at
        depth += {"if": 1, "end": -1}.get(word, 0)


def perform(state, lines, halves):
    """Run a routine on a state; returns what it tells."""
    labels = state.set_labels()
    kept = {label: "start" for label in labels}
    meanings = dict(zip(lines[0].split(" ")[2:], halves))
    has_labels, at = False, 0
    while at + 1 < len(lines):
        at += 1
        number, words = at + 1, lines[at].split(" ")
        form = form_of(lines[at])
        if form == "given":
            if not state.holds(words[1:], meanings, number):
                raise Stop("FactFails", number)
        elif form == "if":
            if not state.holds(words[1:], meanings, number):
                at = other_part(lines, at)
        elif form == "else":
            at = other_part(lines, at)
        elif form == "let":
            meanings[words[1]] = state.value(words[3], meanings, number)
        elif form == "make":
            new = (state.made, state.made + 1)
            for half, other in (new, new[::-1]):
                state.halves[half] = dict.fromkeys(("next", "prev", FACE, CORNER))
                state.halves[half]["twin"] = other
            meanings[words[1]], meanings[words[2]] = new
            state.made += 2
        elif form in ("new", "label", "round", "some") or (
                form == "drop" and isinstance(meanings[words[1]], tuple)):
            if not has_labels and not state.links_right():
                raise Stop("Broken", "links", number)
            has_labels = True
            write_label(state, form, words, meanings, kept, number)
        else:
            perform_on_halves(state, form, words, meanings, number)
    judge(state, labels, kept, len(lines) + 1)
    return [meanings[name] for name in told_by(lines)]


def perform_on_halves(state, form, words, meanings, number):
    names = [name for name, _ in used_names(form, " ".join(words))]
    used = [state.value(name, meanings, number) for name in names]
    if form == "link":
        state.halves[used[0]][words[0].split(".")[1]] = used[1]
    elif form == "drop":
        del state.halves[state.halves.pop(used[0])["twin"]]


def write_label(state, form, words, meanings, kept, number):
    if form == "new":
        meanings[words[2]] = (words[1], number, words[2])
        kept[meanings[words[2]]] = "new"
        return
    used = [meanings[name] for name, _ in used_names(form, " ".join(words))]
    if any(one not in kept and one not in state.halves for one in used):
        raise Stop("Broken", "dead", number)
    if form == "drop":
        del kept[used[0]]
    elif form == "some":
        kept[used[0]] = used[1]
    else:
        kind = words[-3].split(".")[1]
        for half in state.orbit(used[0], kind) if form == "round" else used[:1]:
            state.halves[half][kind] = used[1]


def judge(state, at_start, kept, number):
    if not state.links_right():
        raise Stop("Broken", "links", number)
    for kind, fault in ((FACE, "faces"), (CORNER, "corners")):
        borne = {half: one[kind] for half, one in state.halves.items()}
        right = all(label in kept for label in borne.values())
        for half in borne:
            members = state.orbit(half, kind)
            right = right and all((borne[other] == borne[half]) == (other in members)
                                  for other in borne)
        for label, some in kept.items():
            if label[0] == kind:
                bears = at_start[label] if some == "start" else [some]
                right = right and label in borne.values()
                right = right and all(borne.get(half) == label for half in bears)
        if not right:
            raise Stop("Broken", fault, number)


def perform_script(state, lines, halves, deeds):
    state.set_labels()
    meanings = dict(zip(lines[0].split(" ")[2:], halves))
    for at, line in enumerate(lines):
        words, form, number = line.split(" "), form_of(line), at + 1
        if form == "given" and not state.holds(words[1:], meanings, number):
            raise Stop("FactFails", number)
        elif form == "let":
            meanings[words[1]] = state.value(words[3], meanings, number)
        elif form == "call":
            names = [name for name, _ in used_names(form, line)]
            used = [state.value(name, meanings, number) for name in names]
            called = words[words.index("=") + 1] if "=" in words else words[1]
            try:
                told = perform(state, deeds[called], used)
            except Stop as stop:
                fault = "facts" if stop.args[0] == "FactFails" else stop.args[1]
                raise Stop("Broken", fault, number) from None
            meanings.update(zip([name for name, _ in new_names(form, line)], told))
    return [state.value(name, meanings, len(lines)) for name in told_by(lines)]


def plain_run(lines, nexts, halves, deeds=None):
    """What a run does: an outcome with links, kept and told, or the error and its values."""
    state = Plain(nexts)
    try:
        if lines[0].startswith("script "):
            told = perform_script(state, lines, halves, deeds)
        else:
            told = perform(state, lines, halves)
    except Stop as stop:
        return stop.args
    numbers = {half: number for number, half in enumerate(sorted(state.halves))}
    links = [numbers[state.halves[half]["next"]] for half in sorted(state.halves)]
    kept = {half: numbers[half] for half in range(len(nexts)) if half in numbers}
    return ("Outcome", links, kept, [numbers[half] for half in told])
