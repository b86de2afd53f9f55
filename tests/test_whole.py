"""Points 2 and 3 over the whole program: all names, all ways to one count, any order, nothing left behind."""

import importlib
import inspect
import os
import pathlib
import subprocess
import sys
import unittest

from reckoning import PARTINGS, RESTS, asked, is_told, kind_as_written, parting_as_written, refusal, scattered

from partrests.answers import answer
from partrests.counting import counts
from partrests.cores import apart, core_of, joined, size_of, vector
from partrests.errors import PartError
from partrests.events import sieved
from partrests.kindpowers import powers_of
from partrests.kinds import listed
from partrests.leading import led
from partrests.pairing import folded, merged, paired, split, unfolded
from partrests.places import at, place_of
from partrests.products import by_steps, powers_found, product, steps_of
from partrests.reading import read_drawn, read_kind, read_parting
from partrests.rows import undone
from partrests.showing import drawn, show_kind, show_parting
from partrests.spreads import shares, spread
from partrests.tables import by_number, by_square, corners
from partrests.turning import share, turned_on

ROOT = pathlib.Path(__file__).resolve().parent.parent

# Each name with how many things it is handed.
INTERFACE = {
    "partings": {"is_parting": 1, "weight": 1, "turned": 1, "sizes": 1, "both": 2, "less": 2},
    "listing": {"partings": 1},
    "kinds": {"is_kind": 1, "is_of": 2, "listed": 2},
    "counting": {"counts": 2},
    "tables": {"by_number": 1, "by_square": 1, "corners": 1},
    "rows": {"times": 2, "undone": 1},
    "products": {"product": 1, "powers_found": 1, "steps_of": 1, "by_steps": 1},
    "kindpowers": {"powers_of": 2},
    "claims": {"is_claim": 1, "first_not": 2, "quotients": 2, "claims": 3},
    "claimlooks": {"shows_claim": 3},
    "ranks": {"rank": 1, "mark": 1},
    "spreads": {"spread": 2, "shares": 3, "first_uneven": 4},
    "hooks": {"hooks": 1},
    "cores": {"vector": 2, "apart": 2, "is_core": 2, "joined": 2, "size_of": 1, "core_of": 1},
    "frames": {"round_of": 1, "vector_by": 2, "frame_of": 2},
    "turning": {"turned_on": 2, "share": 2},
    "events": {"are_events": 1, "standing": 2, "sieved": 2},
    "leading": {"led": 3},
    "pairing": {"merged": 2, "split": 2, "paired": 1, "folded": 1, "unfolded": 1},
    "places": {"place_of": 2, "at": 3},
    "showing": {"show_parting": 1, "show_kind": 1, "drawn": 1},
    "reading": {"read_parting": 1, "read_kind": 1, "read_drawn": 1},
    "answers": {"answer": 1},
}

REFUSALS = ("NoRow", "NoCore", "NoTurn", "NoPair", "NoList", "NoPlace", "NoText", "NoLine", "NotSo")

ROW = (1, 2, 4, 6, 10, 14, 22, 30, 44, 60)

QUESTIONS = (
    ("partings", "is_parting", ((3, 1),)), ("partings", "is_parting", ([3, 1],)), ("partings", "weight", ((3, 1),)),
    ("partings", "turned", ((3, 1),)), ("partings", "sizes", ((3, 1, 1),)), ("partings", "both", ((3, 1), (2,))),
    ("partings", "less", ((3, 1), (1,))), ("partings", "less", ((3, 1), (2,))), ("listing", "partings", (6,)),
    ("kinds", "is_kind", (("rests", 5, (1, 4)),)), ("kinds", "is_kind", (("rests", 5, [1, 4]),)),
    ("kinds", "is_of", (("off", 1), (3, 1))), ("kinds", "listed", (("off", 1), 9)),
    ("counting", "counts", (("all",), 60)), ("counting", "counts", (("box", 5, 6), 40)),
    ("counting", "counts", (("own",), 40)), ("tables", "by_number", (12,)), ("tables", "by_square", (20,)),
    ("tables", "corners", (30,)), ("rows", "times", (ROW, ROW)), ("rows", "undone", (ROW,)),
    ("products", "product", ((1, -1, 2, 0, -2),)), ("products", "powers_found", (ROW,)),
    ("products", "steps_of", ((1, -1, 2),)), ("products", "by_steps", ((1, 3, 4),)),
    ("products", "by_steps", ((1, 0),)), ("kindpowers", "powers_of", (("times", 3), 20)),
    ("kindpowers", "powers_of", (("off", 3), 20)), ("claims", "is_claim", ((5, 4, 5),)),
    ("claims", "is_claim", ([5, 4, 5],)), ("claims", "first_not", (ROW, (2, 1, 2))),
    ("claims", "quotients", (ROW, (2, 1, 2))), ("claims", "quotients", (ROW, (2, 0, 2))),
    ("claims", "claims", (ROW, 4, 2)), ("claimlooks", "shows_claim", (ROW, (2, 1, 2), (1, 3, 7, 15, 30))),
    ("claimlooks", "shows_claim", (ROW, (2, 1, 2), [1, 3, 7, 15, 30])), ("ranks", "rank", ((4, 1),)),
    ("ranks", "mark", ((4, 1),)), ("spreads", "spread", ("rank", 12)), ("spreads", "spread", ("mark", 1)),
    ("spreads", "shares", ("mark", 24, 5)), ("spreads", "first_uneven", ("rank", 11, 6, 60)),
    ("spreads", "first_uneven", ("mark", 7, 5, 60)), ("hooks", "hooks", ((4, 3, 1),)),
    ("cores", "vector", ((4, 3, 1), 3)), ("cores", "apart", ((4, 3, 1), 3)), ("cores", "is_core", ((4, 3, 1), 3)),
    ("cores", "joined", ((2,), ((2,), (), ()))), ("cores", "joined", ((3,), ((2,), (), ()))),
    ("cores", "size_of", ((2, -1, -1),)), ("cores", "core_of", ((2, -1, -1),)), ("frames", "round_of", (7,)),
    ("frames", "vector_by", (5, (1, 1, -1, 0, 0))), ("frames", "frame_of", (5, (0, 2, 0, 0, -2))),
    ("frames", "frame_of", (5, (0, 0, 0, 0, 0))), ("turning", "turned_on", (5, (5, 3, 1))),
    ("turning", "turned_on", (5, (5, 3))), ("turning", "share", (11, (6, 5, 5, 1))), ("turning", "share", (7, ())),
    ("events", "are_events", (((3, 1), (2,)),)), ("events", "are_events", (((3, 1), [2]),)),
    ("events", "standing", (((3, 1), (2,)), (4, 3, 1))), ("events", "sieved", (((3, 1), (2,)), 40)),
    ("leading", "led", (((1, 1), (2, 2)), ((2,), (4,)), (4, 3))), ("leading", "led", (((2,),), ((3,),), (1,))),
    ("leading", "led", ([(2,)], [(2,)], (1,))), ("leading", "led", (((2,),), ((1, 1),), (2,))),
    ("pairing", "merged", ((3, 1, 1), 2)), ("pairing", "merged", ((2, 1), 2)), ("pairing", "split", ((6, 2), 2)),
    ("pairing", "split", ((1, 1), 2)), ("pairing", "paired", ((5, 4, 2),)), ("pairing", "paired", ((2,),)),
    ("pairing", "paired", ((2, 2),)), ("pairing", "folded", ((3, 2, 1),)), ("pairing", "folded", ((3,),)),
    ("pairing", "unfolded", ((5, 1),)), ("pairing", "unfolded", ((4, 1),)),
    ("places", "place_of", (("all",), (4, 3, 1))), ("places", "place_of", (("few", 2), (4, 3, 1))),
    ("places", "at", (("times", 2), 50, 100)), ("places", "at", (("times", 2), 50, -1)),
    ("showing", "show_parting", ((4, 3, 1),)), ("showing", "show_kind", (("rests", 5, (1, 4)),)),
    ("showing", "drawn", ((4, 3, 1),)), ("reading", "read_parting", ("4+3+1",)),
    ("reading", "read_parting", ("4+3+",)), ("reading", "read_kind", ("rests 5 1,4",)),
    ("reading", "read_kind", (["all"],)), ("reading", "read_drawn", ("##\n#",)), ("reading", "read_drawn", ("#\n##",)),
    ("answers", "answer", ("count off 2 30",)), ("answers", "answer", ("turn 5 5",)),
    ("answers", "answer", ("pair 1+1",)), ("answers", "answer", ("place few 1 1+1",)),
    ("answers", "answer", ("rank 4+3+1 ",)), ("answers", "answer", (None,)),
)


def deed_of(module, name):
    return getattr(importlib.import_module(f"partrests.{module}"), name)


def told_of(question):
    """What is told of a question, or the class of its refusal and the place that it bears, as a text."""
    module, name, given = question
    try:
        return repr(deed_of(module, name)(*given))
    except PartError as error:
        return f"{type(error).__name__} {getattr(error, 'place', None)}"


def is_refused(question):
    return told_of(question).startswith("No") and not told_of(question).startswith("None")


def kept_at_the_tops():
    """All that the modules hold at their tops but functions and classes."""
    told = {}
    for module in list(INTERFACE) + ["errors", "wholes"]:
        for name, thing in vars(importlib.import_module(f"partrests.{module}")).items():
            if not name.startswith("__") and not inspect.isfunction(thing) and not inspect.isclass(thing):
                told[module, name] = repr(thing)
    return told


class Names(unittest.TestCase):
    def test_all_are_there_under_their_names(self):
        for module, names in INTERFACE.items():
            for name, many in names.items():
                given = inspect.signature(deed_of(module, name)).parameters.values()
                self.assertEqual(deed_of(module, name).__module__, f"partrests.{module}")
                self.assertEqual(len(given), many, (module, name))
                self.assertEqual({one.kind for one in given}, {inspect.Parameter.POSITIONAL_OR_KEYWORD})

    def test_refusals_stand_straight_under_one(self):
        errors = importlib.import_module("partrests.errors")
        self.assertEqual(errors.PartError.__bases__, (ValueError,))
        for name in REFUSALS:
            self.assertEqual(getattr(errors, name).__bases__, (errors.PartError,))

    def test_each_name_is_asked_of_below(self):
        found = {(module, name) for module, name, given in QUESTIONS}
        self.assertEqual(found, {(module, name) for module, names in INTERFACE.items() for name in names})


class AnyOrder(unittest.TestCase):
    def setUp(self):
        self.first = [told_of(question) for question in QUESTIONS]

    def orders(self):
        places = list(range(len(QUESTIONS)))
        yield places[::-1]
        for seed in range(6):
            keys = scattered(len(places), 10 ** 6, seed)
            yield sorted(places, key=lambda place: keys[place])

    def test_refusals_are_among_the_questions(self):
        found = {told.split(" ")[0] for told in self.first if told.startswith("No") and not told.startswith("None")}
        self.assertEqual(found, set(REFUSALS))

    def test_asked_in_any_order_and_again(self):
        for order in self.orders():
            for place in order + order[:9]:
                self.assertEqual(told_of(QUESTIONS[place]), self.first[place], QUESTIONS[place])

    def test_no_refusal_leaves_anything_behind(self):
        kept = kept_at_the_tops()
        for question in QUESTIONS:
            if is_refused(question):
                for place, other in enumerate(QUESTIONS):
                    if other[0] != "spreads":
                        told_of(question)
                        self.assertEqual(told_of(other), self.first[place], (question, other))
        self.assertEqual(kept_at_the_tops(), kept)

    def test_what_is_handed_in_stays_and_what_is_told_is_plain(self):
        for module, name, given in QUESTIONS:
            if not is_refused((module, name, given)):
                self.assertTrue(is_told(asked(deed_of(module, name), *given)))
            else:
                self.assertTrue(issubclass(refusal(deed_of(module, name), *given), PartError))

    def test_nothing_is_kept_at_the_tops(self):
        kept = kept_at_the_tops()
        for question in QUESTIONS:
            told_of(question)
        self.assertEqual(kept_at_the_tops(), kept)

    def test_another_run_tells_the_same(self):
        code = "import test_whole; print([test_whole.told_of(one) for one in reversed(test_whole.QUESTIONS)])"
        for seed in ("0", "1", "77"):
            told = subprocess.run(
                [sys.executable, "-c", code], cwd=ROOT / "tests", capture_output=True, text=True, check=True,
                env=dict(os.environ, PYTHONHASHSEED=seed, PYTHONPATH=str(ROOT), PYTHONDONTWRITEBYTECODE="1"))
            self.assertEqual(told.stdout, repr(self.first[::-1]) + "\n")


class AllWaysAgree(unittest.TestCase):
    """Point 3, beyond the lists."""

    def test_counts_of_all(self):
        everything = counts(("all",), 600)
        self.assertEqual(everything, product((1,) * 600))
        self.assertEqual(everything, product(powers_of(("all",), 600)))
        self.assertEqual(everything, by_steps(steps_of((1,) * 600)))
        row = [0] * 601
        for place, sign in corners(600):
            row[place] += sign
        self.assertEqual(everything, undone(tuple(row)))
        self.assertEqual(everything[:301], sieved((), 300))
        for n in (0, 1, 2, 31, 150, 199, 200):
            self.assertEqual(sum(by_number(n)), everything[n])
        for n in (0, 1, 2, 31, 200, 599, 600):
            self.assertEqual(sum(by_square(n)), everything[n])
        for n in (0, 1, 2, 31, 99, 100):
            for which in ("rank", "mark"):
                self.assertEqual(sum(many for value, many in spread(which, n)), everything[n])
                self.assertEqual(sum(shares(which, n, 7)), everything[n])

    def test_counts_of_kinds(self):
        for m in (2, 3, 5, 60):
            self.assertEqual(counts(("times", m), 600), counts(("rests", m, tuple(range(1, m))), 600))
        self.assertEqual(counts(("off", 1), 600), counts(("times", 2), 600))
        self.assertEqual(counts(("off", 2), 600), counts(("rests", 5, (1, 4)), 600))
        for k in (1, 2, 7, 60, 600):
            self.assertEqual(counts(("most", k), 600), counts(("few", k), 600))
            self.assertEqual(counts(("box", k, 600), 600), counts(("most", k), 600))
        for n in (31, 100, 200):
            for k in (1, 2, 20, 200):
                self.assertEqual(sum(by_number(n)[:k + 1]), counts(("few", k), n)[n])

    def test_sieved_counts(self):
        doubles = tuple((size, size) for size in range(1, 9))
        singles = tuple((2 * size,) for size in range(1, 9))
        self.assertEqual(sieved(doubles, 300), sieved(singles, 300))
        self.assertEqual(sieved(doubles, 17), counts(("times", 2), 17))
        self.assertEqual(sieved(singles, 17), counts(("rests", 2, (1,)), 17))
        self.assertEqual(sieved(((1,),), 300), tuple(sieved_by_one(300)))

    def test_rows_and_powers(self):
        for kind in (("all",), ("own",), ("times", 3), ("rests", 5, (1, 4)), ("off", 2), ("box", 9, 11), ("few", 4)):
            row = counts(kind, 120)
            powers = powers_of(kind, 120)
            self.assertEqual(powers_found(row), powers)
            self.assertEqual(product(powers), row)
            self.assertEqual(by_steps(steps_of(powers)), row)
            self.assertEqual(undone(undone(row)), row)

    def test_cores_turns_and_shares(self):
        for t, c in RESTS.items():
            for n in range(c, 21, t):
                for parting in PARTINGS[n][::3]:
                    core, quotients = apart(parting, t)
                    self.assertEqual(joined(core, quotients), parting)
                    self.assertEqual(core_of(vector(parting, t)), core)
                    self.assertEqual(size_of(vector(parting, t)), sum(core))
                    self.assertEqual(share(t, turned_on(t, parting)), (share(t, parting) + 1) % t)

    def test_lists_led_as_they_are_merged_and_paired(self):
        doubles = tuple((size, size) for size in range(1, 13))
        singles = tuple((2 * size,) for size in range(1, 13))
        for n in range(25):
            unlike = listed(("times", 2), n)
            odd = listed(("rests", 2, (1,)), n)
            self.assertEqual(sorted(merged(parting, 2) for parting in odd), sorted(unlike))
            for parting in unlike:
                self.assertEqual(led(doubles, singles, parting)[0], split(parting, 2))
                self.assertEqual(paired(parting) is None, n in dict(corners(n)) and at_corner(parting))
            own = listed(("own",), n)
            self.assertEqual(sorted(folded(parting) for parting in own), [one for one in odd if one in unlike])
            self.assertEqual(tuple(sorted(unfolded(one) for one in odd if one in unlike)), own)

    def test_places_and_texts(self):
        for kind in (("all",), ("most", 4), ("few", 3), ("box", 5, 4), ("off", 2), ("times", 3), ("rests", 4, (1, 2))):
            self.assertEqual(read_kind(show_kind(kind)), kind)
            for n in range(15):
                for place, parting in enumerate(listed(kind, n)):
                    self.assertEqual(place_of(kind, parting), place)
                    self.assertEqual(at(kind, n, place), parting)
                    self.assertEqual(read_parting(show_parting(parting)), parting)
                    self.assertEqual(read_drawn(drawn(parting)), parting)
                    self.assertEqual(answer(f"place {kind_as_written(kind)} {parting_as_written(parting)}"), str(place))
                self.assertEqual(answer(f"count {kind_as_written(kind)} {n}"), str(counts(kind, n)[n]))


def sieved_by_one(most):
    """How many partings of each number have no 1."""
    row = (0,) + counts(("all",), most)
    return [row[n + 1] - row[n] for n in range(most + 1)]


def at_corner(parting):
    """Whether all parts fall by one each down to as many as they are, or one more."""
    many = len(parting)
    return parting in (tuple(range(2 * many - 1, many - 1, -1)), tuple(range(2 * many, many, -1)))


if __name__ == "__main__":
    unittest.main()
