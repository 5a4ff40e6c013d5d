"""Which facts a routine needs to leave a correct mesh always."""

from halfmeshes.errors import BadLine, NeverGiven, UnknownName
from halfmeshes.judging import broken_case
from halfmeshes.lines import read_step
from halfmeshes.texts import Routine


def needed_facts(routine, facts):
    """Return the smallest sets of facts under which a routine never breaks."""
    given = list(facts)
    for at, fact in enumerate(given):
        _check_fact(routine, at, fact)
    rows = [[]]
    while rows:
        found = [row for row in rows if _is_enough(routine, [given[index] for index in row])]
        if found:
            return found
        rows = [row + [index] for row in rows for index in range(len(given)) if index > max(row, default=-1)]
    return []


def _check_fact(routine, index, fact):
    """Raise the error if a fact is no condition on halves of a routine."""
    step = read_step("given " + fact)
    if step is None:
        raise BadLine(index)
    for name in step.used:
        if name not in routine.halves:
            raise UnknownName(index, name)


def _is_enough(routine, facts):
    """Tell whether the facts can hold and the lines of a routine then never break."""
    try:
        return broken_case(_with_facts(routine, facts)) is None
    except NeverGiven:
        return False


def _with_facts(routine, facts):
    """Return a routine with other facts."""
    rest = [at for at, step in enumerate(routine.steps) if at > 0 and step.action != "given"]
    lines = [routine.lines[0]] + ["given " + fact for fact in facts]
    steps = [routine.steps[0]] + [read_step(line) for line in lines[1:]]
    jumps = [None] * len(lines)
    moved = len(lines) + len(rest) - len(routine)
    for at in rest:
        lines.append(routine.lines[at])
        steps.append(routine.steps[at])
        jump = routine.jumps[at]
        jumps.append(None if jump is None else jump + moved)
    return Routine(routine.name, routine.halves, lines, steps, jumps)
