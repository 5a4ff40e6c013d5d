"""Points 5, 32, 38 and 39: live meshes."""

import unittest

from halfmeshes.books import read_book
from halfmeshes.errors import Broken, FactFails, MeshError, NeverGiven, NothingToUndo, UnknownDeed, UnknownMark
from halfmeshes.judging import breaks
from halfmeshes.live import LiveMesh
from halfmeshes.meshes import Mesh
from halfmeshes.runs import run
from tests import drawing, helpers, looking, samples

EXTRA = """routine dead a
drop a
tell a

routine far a
given a.next != a
drop a"""
BOOK = read_book(samples.BOOK + "\n\n" + EXTRA)


def state(live):
    """The links of a live mesh and its marks."""
    return live.mesh.nexts(), {name: live.half(name) for name in live.marks()}


def undone(live):
    """All states that can be undone, the last one first."""
    found = []
    while True:
        try:
            live.undo()
        except NothingToUndo:
            return found
        found.append(state(live))


class Plain:
    """Points 38 and 39, written down in the plainest way, for calls that raise no error."""

    def __init__(self, nexts):
        self.now = (nexts, {})
        self.past = []

    def call(self, name, marks, tells):
        nexts, places = self.now
        outcome = run(BOOK[name], Mesh(nexts), [places[mark] for mark in marks])
        places = {mark: outcome.kept[half] for mark, half in places.items() if half in outcome.kept}
        places.update(zip(tells, outcome.told))
        self.now = (outcome.mesh.nexts(), places)
        return outcome.told


class LiveCase(unittest.TestCase):
    def live(self, nexts, **marks):
        live = LiveMesh(BOOK, Mesh(nexts))
        for name, half in marks.items():
            self.assertIsNone(live.mark(name, half))
        return live

    def fails(self, live, error, values, call, *arguments, **named):
        """A call raises an error and changes nothing."""
        before = state(live)
        with self.assertRaises(MeshError) as caught:
            call(*arguments, **named)
        self.assertIs(type(caught.exception), error)
        self.assertEqual(vars(caught.exception), values)
        self.assertEqual(state(live), before)


class Live(LiveCase):
    def test_marks(self):
        live = self.live([2, 3, 1, 0])
        self.assertEqual(live.marks(), [])
        live.mark("b", 3)
        live.mark("a", 0)
        live.mark("c", 3)
        self.assertEqual((live.marks(), live.half("a"), live.half("b"), live.half("c")), (["a", "b", "c"], 0, 3, 3))
        live.mark("a", 2)
        self.assertEqual((live.marks(), live.half("a")), (["a", "b", "c"], 2))
        live.marks().clear()
        self.assertEqual(live.marks(), ["a", "b", "c"])
        self.fails(live, UnknownMark, {"name": "d"}, live.half, "d")
        self.assertEqual(live.mesh, Mesh([2, 3, 1, 0]))

    def test_run(self):
        live = self.live([1, 0], a=0, b=1)
        self.assertEqual(live.run("join", "a", "b", tells=["p"]), [2])
        self.assertEqual(state(live), (run(BOOK["join"], Mesh([1, 0]), [0, 1]).mesh.nexts(), {"a": 0, "b": 1, "p": 2}))
        self.assertEqual(live.run("spur", "p", tells=("x", "p")), [4, 5, 2])
        self.assertEqual((live.half("x"), live.half("p"), live.marks()), (4, 5, ["a", "b", "p", "x"]))
        self.assertEqual(live.run("spur", "p"), [6, 7, 5])
        self.assertEqual(live.run("plain", "a"), [])
        self.assertEqual(live.run("spur", "a", tells=["z", "z", "z"])[2], live.half("z"))

    def test_marks_of_dropped_halves_vanish(self):
        live = self.live([1, 0, 3, 2], a=0, b=1, c=2, d=3, e=0)
        self.assertEqual(live.run("erase", "a"), [])
        self.assertEqual(state(live), ([1, 0], {"c": 0, "d": 1}))
        live.mark("a", 1)
        live.undo()
        self.assertEqual(state(live), ([1, 0, 3, 2], {"a": 0, "b": 1, "c": 2, "d": 3, "e": 0}))
        self.fails(live, NothingToUndo, {}, live.undo)

    def test_a_told_half_takes_the_mark_of_a_dropped_one(self):
        live = self.live([1, 0], a=0)
        self.assertEqual(live.run("spur", "a", tells=["p", "q"]), [2, 3, 0])
        self.assertEqual(live.run("prune", "p", tells=["p"]), [0])
        self.assertEqual(state(live), ([1, 0], {"a": 0, "p": 0}))

    def test_errors(self):
        live = self.live([1, 0], a=0, b=1)
        live.run("spur", "a", tells=["p"])
        self.fails(live, UnknownDeed, {"name": "nothing"}, live.run, "nothing", "x", "a")
        self.fails(live, UnknownMark, {"name": "x"}, live.run, "join", "x", "y")
        self.fails(live, UnknownMark, {"name": "y"}, live.run, "join", "a", "y")
        self.fails(live, FactFails, {"line": 3}, live.run, "join", "a", "a")
        self.fails(live, Broken, {"fault": "dead", "line": 3}, live.run, "dead", "a", tells=["a"])
        self.fails(live, UnknownMark, {"name": "z"}, live.run, "dead", "z")
        self.assertEqual(undone(live), [([1, 0], {"a": 0, "b": 1})])

    def test_undo(self):
        live = self.live([1, 0], a=0)
        self.fails(live, NothingToUndo, {}, live.undo)
        live.run("spur", "a", tells=["p"])
        live.mark("q", 3)
        second = state(live)
        live.run("halve", "q", tells=["r"])
        live.mark("a", 5)
        live.mark("s", 0)
        self.assertIsNone(live.undo())
        self.assertEqual(state(live), second)
        live.run("spur", "p")
        self.assertEqual(undone(live), [second, ([1, 0], {"a": 0})])
        self.fails(live, NothingToUndo, {}, live.undo)

    def test_results_are_new(self):
        live = self.live([1, 0], a=0)
        tells, marks = ["p"], ["a"]
        found = live.run("spur", *marks, tells=tells)
        found.append(7)
        again = live.run_all([("spur", marks, tells), ("spur", ("p",), ("q",))])
        again[0].clear()
        again.clear()
        self.assertEqual((tells, marks, live.half("q")), (["p"], ["a"], 6))
        self.assertEqual(len(undone(live)), 2)

    def test_book_and_mesh_are_kept(self):
        mesh = Mesh([1, 0])
        live = LiveMesh(mesh=mesh, book=BOOK)
        self.assertIs(live.mesh, mesh)
        live.mark(half=0, name="a")
        live.run("spur", "a")
        self.assertEqual(mesh.nexts(), [1, 0])
        self.assertEqual(live.half(name="a"), 0)
        self.assertEqual(BOOK.names()[:2], ["join", "bridge"])


class RunAll(LiveCase):
    def test_as_single_calls(self):
        calls = [("spur", ["a"], ["p"]), ("join", ("p", "a"), ("q",)), ("plain", ["a"], []), ("grow", ["q"], ["x", "y"])]
        one, other = self.live([1, 0], a=0), self.live([1, 0], a=0)
        start = state(one)
        passed = list(calls)
        found = one.run_all(calls=calls)
        self.assertEqual(calls, passed)
        self.assertEqual(found, [other.run(name, *marks, tells=tells) for name, marks, tells in calls])
        self.assertEqual(state(one), state(other))
        self.assertEqual(len(undone(other)), 4)
        self.assertEqual(undone(one), [start])

    def test_empty_list(self):
        live = self.live([1, 0], a=0)
        live.run("spur", "a")
        first = state(live)
        self.assertEqual(live.run_all([]), [])
        live.mark("b", 1)
        live.undo()
        self.assertEqual(state(live), first)
        self.assertEqual(undone(live), [([1, 0], {"a": 0})])

    def test_errors(self):
        good = [("spur", ["a"], ["p"]), ("spur", ["p"], ["q", "a"])]
        for bad, error, values in ((("nothing", ["x"], []), UnknownDeed, {"name": "nothing"}),
                                   (("spur", ["x"], []), UnknownMark, {"name": "x"}),
                                   (("join", ["a", "x"], []), UnknownMark, {"name": "x"}),
                                   (("merge", ["a"], []), FactFails, {"line": 2}),
                                   (("dead", ["a"], ["p"]), Broken, {"fault": "dead", "line": 3})):
            for at in range(3):
                live = self.live([1, 0], a=0, b=1)
                live.run("halve", "b")
                live.mark("c", 2)
                calls = good[:at] + [bad] + good[at:]
                self.fails(live, error, values, live.run_all, calls)
                live.run_all(good)
                self.assertEqual([one[1] for one in undone(live)], [{"a": 0, "b": 1, "c": 2}, {"a": 0, "b": 1}])

    def test_marks_that_only_a_call_ahead_gives(self):
        live = self.live([1, 0], a=0)
        self.fails(live, UnknownMark, {"name": "p"}, live.run_all, [("spur", ["p"], ["p"]), ("spur", ["a"], ["p"])])
        self.assertEqual(live.run_all([("spur", ["a"], ["p"]), ("spur", ["p"], ["p"])]), [[2, 3, 0], [4, 5, 2]])


class Drawn(LiveCase):
    def test_drawn_calls(self):
        names = [name for name in BOOK.names() if name not in ("sort", "ask")]
        done = 0
        for seed in range(500):
            draws = drawing.Draws(seed)
            nexts = helpers.pieced_nexts(1 + draws.below(5), seed)
            live, plain = LiveMesh(BOOK, Mesh(nexts)), Plain(nexts)
            for at in range(12):
                half = draws.below(len(plain.now[0])) if plain.now[0] else None
                if half is not None and draws.chance(1, 3):
                    live.mark(f"m{at % 4}", half)
                    plain.now[1][f"m{at % 4}"] = half
                if draws.chance(1, 6) and plain.past:
                    live.undo()
                    plain.now = plain.past.pop()
                calls = []
                for _ in range(draws.below(3)):
                    name = draws.pick(names)
                    marks = [f"m{draws.below(4)}" for _ in BOOK[name].halves]
                    told = BOOK[name].told
                    calls.append((name, marks, [f"m{draws.below(4)}" for _ in told[:draws.below(4)]]))
                before = (list(plain.now[0]), dict(plain.now[1]))
                try:
                    expected = [plain.call(*call) for call in calls]
                except (KeyError, MeshError):
                    plain.now = before
                    with self.assertRaises(MeshError):
                        live.run_all(calls)
                else:
                    plain.past.append(before)
                    self.assertEqual(live.run_all(calls), expected)
                    done += len(calls)
                self.assertEqual(state(live), plain.now)
        self.assertGreater(done, 200)

    def test_deeds_that_never_break(self):
        # Each deed is run on live meshes on which its facts hold.
        for name in BOOK.names():
            deed = BOOK[name]
            if name == "ask" or len(deed.halves) > 2:
                continue
            try:
                broken = breaks(deed)
            except NeverGiven:
                continue
            if broken is None:
                rows = list(looking.drawn_rows(len(name), len(deed.halves)))
                for mesh, halves in looking.ALL_ROWS[len(deed.halves)] + rows:
                    live = LiveMesh(BOOK, mesh)
                    marks = [f"m{at}" for at in range(len(halves))]
                    for mark, half in zip(marks, halves):
                        live.mark(mark, half)
                    try:
                        live.run(name, *marks)
                    except FactFails:
                        continue
            else:
                live = LiveMesh(BOOK, broken[0])
                for at, half in enumerate(broken[1]):
                    live.mark(f"m{at}", half)
                with self.assertRaises(Broken):
                    live.run(name, *live.marks())
                with self.assertRaises(Broken):
                    live.run_all([(name, live.marks(), [])])


if __name__ == "__main__":
    unittest.main()
