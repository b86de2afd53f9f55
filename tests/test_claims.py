"""Points 13 and 14, and 3 (c): is_claim, first_not, quotients, claims, shows_claim."""

import copy
import itertools
import unittest

from reckoning import Prickly, asked, nested, odd_things, scattered

from partrests.claimlooks import shows_claim
from partrests.claims import claims, first_not, is_claim, quotients
from partrests.counting import counts
from partrests.errors import NotSo, PartError
from partrests.products import product
from partrests.rows import undone

GREAT = 10 ** 6

EDGE_CLAIMS = (
    (1, 0, 2), (1, 0, GREAT), (2, 0, 2), (2, 1, 3), (3, 0, 7), (3, 2, 7), (5, 4, 5), (60, 0, 2), (60, 59, 9),
    (599, 0, 2), (599, 1, 2), (599, 598, 2), (600, 0, 2), (600, 0, GREAT), (600, 1, 2), (600, 599, 2),
    (600, 599, GREAT), (121, 120, 5), (120, 120 - 1, 5),
)


def places_of(row, claim):
    """All places of the row that are the claim's, place by place."""
    m, a, q = claim
    return [place for place in range(len(row)) if place >= a and (place - a) % m == 0]


def not_so_at(row, claim):
    """The places of the claim at which the number isn't some whole number q times over."""
    return [place for place in places_of(row, claim) if row[place] - row[place] // claim[2] * claim[2] != 0]


def claims_by_words(row, most, q):
    """claims, by going through all pairs with the document's words."""
    told = []
    for m in range(1, most + 1):
        for a in range(m):
            if len(places_of(row, (m, a, q))) < 3 or not_so_at(row, (m, a, q)):
                continue
            lesser = [step for step in range(1, m) if m % step == 0]
            if all(not_so_at(row, (step, a % step, q)) for step in lesser):
                told.append((m, a))
    return tuple(told)


def some_rows():
    """Rows with noughts, numbers below nought, numbers that some q parts, of one number to 601."""
    told = [(0,), (1,), (-1,), (7,), (GREAT,), (-GREAT,), (0, 0), (6, 7), (0,) * 121, (GREAT,) * 121, (-GREAT,) * 121]
    for seed in (3, 4):
        told.append(tuple(scattered(121, GREAT, seed)))
        told.append(tuple(6 * number for number in scattered(121, GREAT // 6, seed)))
        told.append(tuple(number if n % 5 else 7 * number for n, number in enumerate(scattered(121, 9, seed))))
    told += [counts(("all",), 600), undone(counts(("all",), 600)), counts(("off", 3), 600), counts(("own",), 600)]
    told += [product((2,) * 120), product((-20,) * 120)]
    return told


def some_claims():
    """Claims at the edges, and all of small numbers."""
    told = list(EDGE_CLAIMS)
    for m in range(1, 8):
        told += [(m, a, q) for a in range(m) for q in (2, 3, 5, 6, 7)]
    return told


class IsClaim(unittest.TestCase):
    def test_all_claims_at_the_edges_are(self):
        for claim in some_claims():
            self.assertIs(asked(is_claim, claim), True, claim)

    def test_each_bound_and_one_beyond(self):
        for m in (-GREAT, -1, 0, 1, 2, 599, 600, 601, GREAT, 10 ** 40):
            self.assertIs(asked(is_claim, (m, 0, 2)), 1 <= m <= 600, m)
        for m in (1, 2, 3, 60, 599, 600):
            for a in (-10 ** 40, -m, -1, 0, 1, m - 2, m - 1, m, m + 1, 10 ** 40):
                self.assertIs(asked(is_claim, (m, a, 2)), 0 <= a < m, (m, a))
        for q in (-GREAT, -2, -1, 0, 1, 2, 3, GREAT - 1, GREAT, GREAT + 1, 10 ** 40):
            self.assertIs(asked(is_claim, (3, 1, q)), 2 <= q <= GREAT, q)

    def test_all_small_tuples(self):
        for m, a, q in itertools.product(range(-2, 6), repeat=3):
            self.assertIs(asked(is_claim, (m, a, q)), m >= 1 and 0 <= a < m and q >= 2, (m, a, q))

    def test_longer_and_shorter_tuples(self):
        for thing in ((), (3,), (3, 1), (3, 1, 2, 2), (3, 1, 2, None), ((3, 1, 2),), (3, (1, 2)), ((3, 1), 2),
                      (3, 1, 2) * 2, (1, 0), (1, 0, 2, 0)):
            self.assertIs(asked(is_claim, thing), False, thing)

    def test_lists_and_texts_are_no_tuples(self):
        for thing in ([3, 1, 2], [[3, 1, 2]], ([3, 1, 2],), "312", b"312", {3: 1}, {1, 2, 3}, range(1, 4), "(3, 1, 2)"):
            self.assertIs(is_claim(thing), False, thing)

    def test_truths_are_no_numbers(self):
        for thing in ((True, 0, 2), (3, True, 2), (3, False, 2), (1, False, 2), (3, 1, True), (True, False, True)):
            self.assertIs(asked(is_claim, thing), False, thing)

    def test_other_things_for_numbers(self):
        for thing in (None, "", "1", b"1", [], [1], (), (1,), {}, {1}, 1j, len, int, ..., Prickly()):
            for claim in ((thing, 0, 2), (3, thing, 2), (3, 1, thing), (thing, thing, thing)):
                self.assertIs(is_claim(claim), False)

    def test_anything_is_told_as_a_truth(self):
        for thing in odd_things() + [Prickly(), (Prickly(),), (3, 1, 2, Prickly())]:
            self.assertIs(is_claim(thing), False)

    def test_thirty_deep(self):
        for inner in ((3, 1, 2), 2, (), None):
            self.assertIs(is_claim(nested(inner, lambda thing: (thing,), 30)), False)
            self.assertIs(is_claim(nested(inner, lambda thing: [thing], 30)), False)
            for wrap in (lambda thing: (thing, 0, 2), lambda thing: (3, thing, 2), lambda thing: (3, 1, thing)):
                self.assertIs(is_claim(nested((inner,), wrap, 29)), False)

    def test_what_is_handed_in_stays(self):
        for thing in ([3, 1, 2], (3, [1], 2), {"m": [3]}):
            kept = copy.deepcopy(thing)
            is_claim(thing)
            self.assertEqual(thing, kept)


class FirstNot(unittest.TestCase):
    def test_number_by_number(self):
        for row in some_rows():
            for claim in some_claims():
                told = not_so_at(row, claim)
                self.assertEqual(asked(first_not, row, claim), told[0] if told else None, claim)

    def test_all_short_rows(self):
        for many in range(1, 7):
            for row in itertools.product((-3, 0, 4), repeat=many):
                for claim in ((1, 0, 2), (2, 0, 3), (2, 1, 2), (3, 1, 4), (4, 3, 3), (7, 6, 2)):
                    told = not_so_at(row, claim)
                    self.assertEqual(first_not(row, claim), told[0] if told else None, (row, claim))

    def test_no_place_in_the_row(self):
        for row, claim in (((1,), (2, 1, 2)), ((1,), (600, 599, 2)), ((1,) * 599, (600, 599, 2)), ((1, 1), (3, 2, 7))):
            self.assertIsNone(asked(first_not, row, claim))
            self.assertEqual(asked(quotients, row, claim), ())

    def test_the_last_place_of_a_row_of_601_numbers(self):
        row = (0,) * 600 + (1,)
        for m in (1, 2, 3, 600):
            self.assertEqual(asked(first_not, row, (m, 0, 2)), 600)
        self.assertIsNone(asked(first_not, row, (599, 0, 2)))
        self.assertEqual(asked(first_not, row, (599, 1, 2)), 600)

    def test_claims_known_to_be_so(self):
        row = counts(("all",), 600)
        for claim in ((5, 4, 5), (7, 5, 7), (11, 6, 11), (25, 24, 25), (49, 47, 49), (125, 99, 125)):
            self.assertIsNone(asked(first_not, row, claim), claim)
        for claim, place in (((5, 3, 5), 3), ((7, 6, 7), 6), ((13, 7, 13), 7), ((5, 4, 25), 4), ((7, 5, 49), 5)):
            self.assertEqual(asked(first_not, row, claim), place, claim)


class Quotients(unittest.TestCase):
    def looked_at(self, row, claim):
        broken = not_so_at(row, claim)
        if broken:
            with self.assertRaises(NotSo) as kept:
                quotients(row, claim)
            self.assertIsInstance(kept.exception, PartError)
            self.assertIs(type(kept.exception.place), int)
            self.assertEqual(kept.exception.place, broken[0])
            self.assertEqual(kept.exception.place, first_not(row, claim))
            return
        told = asked(quotients, row, claim)
        self.assertEqual([number * claim[2] for number in told], [row[place] for place in places_of(row, claim)])

    def test_number_by_number(self):
        for row in some_rows():
            for claim in some_claims():
                self.looked_at(row, claim)

    def test_all_short_rows(self):
        for many in range(1, 7):
            for row in itertools.product((-3, 0, 4), repeat=many):
                for claim in ((1, 0, 2), (2, 0, 3), (2, 1, 2), (3, 1, 4), (4, 3, 3), (7, 6, 2)):
                    self.looked_at(row, claim)

    def test_refused_at_each_place_of_the_claim_and_nowhere_else(self):
        good = tuple(6 * number for number in range(-60, 61))
        for claim in ((1, 0, 6), (2, 1, 6), (7, 3, 3), (60, 0, 2), (60, 59, 2), (120, 0, 6), (120, 119, 3)):
            places = places_of(good, claim)
            for place in range(121):
                row = good[:place] + (good[place] + 1,) + good[place + 1:]
                if place not in places:
                    self.assertEqual(quotients(row, claim), quotients(good, claim))
                    continue
                with self.assertRaises(NotSo) as kept:
                    quotients(row, claim)
                self.assertEqual(kept.exception.place, place)

    def test_refused_at_the_first_place_of_several(self):
        row = (2, 4, 5, 6, 7, 8, 9)
        with self.assertRaises(NotSo) as kept:
            quotients(row, (2, 0, 2))
        self.assertEqual(kept.exception.place, 2)
        self.assertEqual(asked(quotients, row, (2, 1, 2)), (2, 3, 4))

    def test_numbers_below_nought_and_noughts(self):
        self.assertEqual(asked(quotients, (-6, 0, 6, 12), (1, 0, 6)), (-1, 0, 1, 2))
        self.assertEqual(asked(quotients, (-GREAT, 3, GREAT), (2, 0, GREAT)), (-1, 1))
        with self.assertRaises(NotSo) as kept:
            quotients((-6, 0, -7), (1, 0, 6))
        self.assertEqual(kept.exception.place, 2)

    def test_what_is_handed_in_stays_when_refused(self):
        row, claim = (1, 2, 3), (1, 0, 2)
        for turn in range(2):
            with self.assertRaises(NotSo) as kept:
                quotients(row, claim)
            self.assertEqual(kept.exception.place, 0)
        self.assertEqual((row, claim), ((1, 2, 3), (1, 0, 2)))

    def test_known_quotients(self):
        row = counts(("all",), 600)
        self.assertEqual(asked(quotients, row, (5, 4, 5))[:4], (1, 6, 27, 98))
        self.assertEqual(len(quotients(row, (5, 4, 5))), 120)


class ShowsClaim(unittest.TestCase):
    def test_number_by_number(self):
        for row in some_rows():
            for claim in some_claims():
                places = places_of(row, claim)
                made = tuple(row[place] // claim[2] for place in places)
                told = not not_so_at(row, claim)
                self.assertIs(asked(shows_claim, row, claim, made), told, claim)

    def test_just_the_quotients_show_it(self):
        for row, claim in (((6, 1, -12, 0, 18), (2, 0, 6)), ((0, 2), (1, 0, 2)), ((4,), (1, 0, 2)), ((5,), (2, 1, 3))):
            good = quotients(row, claim)
            self.assertIs(asked(shows_claim, row, claim, good), True)
            for at in range(len(good)):
                for change in (-1, 1, 10 ** 30, -10 ** 30):
                    bad = good[:at] + (good[at] + change,) + good[at + 1:]
                    self.assertIs(asked(shows_claim, row, claim, bad), False)
                for number in (None, "0", (), [good[at]], (good[at],), Prickly(), 1j, len):
                    self.assertIs(shows_claim(row, claim, good[:at] + (number,) + good[at + 1:]), False)
                self.assertIs(asked(shows_claim, row, claim, good[:at] + good[at + 1:]), False)
            for more in (0, 1, None, (), good):
                self.assertIs(asked(shows_claim, row, claim, good + (more,)), False)
                self.assertIs(asked(shows_claim, row, claim, (more,) + good), False)
            self.assertIs(asked(shows_claim, row, claim, list(good)), False)
            self.assertIs(asked(shows_claim, row, claim, (good,)), False)

    def test_truths_are_no_numbers(self):
        row, claim = (0, 2), (1, 0, 2)
        self.assertIs(asked(shows_claim, row, claim, (0, 1)), True)
        for thing in ((False, 1), (0, True), (False, True)):
            self.assertIs(asked(shows_claim, row, claim, thing), False)

    def test_no_place_is_shown_by_the_empty_tuple_alone(self):
        self.assertIs(asked(shows_claim, (1, 1), (600, 599, 2), ()), True)
        for thing in ([], None, (0,), ((),), "", b"", {}, False, 0, range(0)):
            self.assertIs(shows_claim((1, 1), (600, 599, 2), thing), False)

    def test_a_claim_that_is_not_so_is_shown_by_nothing(self):
        for thing in ((0, 1), (1, 1), (0,), (1,), (), None, [0, 1], Prickly(), ((0, 1),)):
            self.assertIs(shows_claim((1, 2), (1, 0, 2), thing), False)

    def test_anything_is_told_as_a_truth(self):
        for row, claim in (((4, 4), (1, 0, 2)), ((1, 7), (1, 0, 7)), ((1, 7), (600, 5, 7)), ((2,), (1, 0, 2))):
            for thing in odd_things() + [Prickly(), (Prickly(),), (2, Prickly()), (Prickly(), 2)]:
                told = shows_claim(row, claim, thing)
                self.assertIs(type(told), bool)
                if type(thing) is not tuple:
                    self.assertIs(told, False)

    def test_thirty_deep(self):
        for inner in ((2,), 2, (), None):
            for wrap in (lambda thing: (thing,), lambda thing: [thing], lambda thing: (2, thing)):
                self.assertIs(shows_claim((4, 4), (1, 0, 2), nested((inner,), wrap, 29)), False)
                self.assertIs(shows_claim((4,), (1, 0, 2), nested((inner,), wrap, 29)), False)

    def test_what_is_handed_in_stays(self):
        for thing in ([2, 2], (2, [2]), {"a": [2]}):
            kept = copy.deepcopy(thing)
            shows_claim((4, 4), (1, 0, 2), thing)
            self.assertEqual(thing, kept)


class Claims(unittest.TestCase):
    def test_all_short_rows(self):
        for many in range(1, 11):
            for row in itertools.product((0, 1), repeat=many):
                self.assertEqual(claims(row, 4, 2), claims_by_words(row, 4, 2), row)

    def test_against_all_pairs_gone_through(self):
        for row in some_rows():
            for q in (2, 3, 5, 7, 11, GREAT):
                for most in (1, 2, 12):
                    self.assertEqual(asked(claims, row, most, q), claims_by_words(row, most, q), (most, q))

    def test_most_sixty(self):
        rows = [counts(("all",), 600), counts(("off", 1), 600), undone(counts(("all",), 600)), (0,) * 601]
        rows.append(tuple(0 if n % 12 == 7 or n % 20 == 3 else 1 for n in range(601)))
        rows.append(tuple(0 if n % 4 == 1 or n % 6 == 1 or n % 60 == 59 else -1 for n in range(400)))
        for row in rows:
            for q in (2, 5, 7, 11):
                told = asked(claims, row, 60, q)
                self.assertEqual(told, claims_by_words(row, 60, q), q)
                self.assertEqual(list(told), sorted(set(told)))

    def test_known_claims(self):
        row = counts(("all",), 600)
        self.assertEqual(asked(claims, row, 24, 5), ((5, 4),))
        self.assertEqual(asked(claims, row, 20, 7), ((7, 5),))
        self.assertEqual(asked(claims, row, 20, 11), ((11, 6),))
        self.assertEqual(asked(claims, row, 4, 5), ())
        self.assertEqual(asked(claims, row, 25, 25), ((25, 24),))

    def test_none_that_comes_of_a_lesser_one(self):
        self.assertEqual(asked(claims, (2,) * 121, 60, 2), ((1, 0),))
        self.assertEqual(asked(claims, (0, 1) * 60, 60, 7), ((2, 0),))
        self.assertEqual(asked(claims, (1, 0) * 60, 60, 7), ((2, 1),))
        row = tuple(0 if n % 2 == 0 or n % 3 == 1 else 1 for n in range(60))
        self.assertEqual(asked(claims, row, 12, 2), ((2, 0), (3, 1)))
        row = tuple(0 if n % 4 in (0, 1) else 1 for n in range(60))
        self.assertEqual(asked(claims, row, 12, 2), ((4, 0), (4, 1)))

    def test_just_two_and_just_three_places(self):
        for m in (1, 2, 5, 60):
            for a in {0, m // 2, m - 1}:
                row = [1] * (a + 2 * m + 1)
                for place in range(a, len(row), m):
                    row[place] = 0
                three, two = tuple(row), tuple(row[:-1])
                self.assertEqual(len(places_of(three, (m, a, 2))), 3)
                self.assertEqual(len(places_of(two, (m, a, 2))), 2)
                self.assertIn((m, a), asked(claims, three, m, 2))
                self.assertNotIn((m, a), asked(claims, two, m, 2))
                self.assertEqual(asked(claims, two, m, 2), claims_by_words(two, m, 2))

    def test_short_rows(self):
        for row in ((0,), (0, 0)):
            for most in (1, 2, 60):
                self.assertEqual(asked(claims, row, most, 2), ())
        for most in (1, 2, 60):
            self.assertEqual(asked(claims, (0, 0, 0), most, 2), ((1, 0),))
            self.assertEqual(asked(claims, (0, 0, 1), most, 2), ())

    def test_most_bounds_the_steps(self):
        row = tuple(0 if n % 60 == 31 else 1 for n in range(300))
        self.assertEqual(asked(claims, row, 59, 2), ())
        self.assertEqual(asked(claims, row, 60, 2), ((60, 31),))

    def test_numbers_below_nought(self):
        row = tuple((-1) ** n * (3 if n % 2 else 4) for n in range(30))
        self.assertEqual(asked(claims, row, 6, 3), ((2, 1),))
        self.assertEqual(asked(claims, row, 6, 4), ((2, 0),))

    def test_each_told_one_is_shown_by_its_quotients(self):
        row = counts(("all",), 600)
        for q in (2, 5, 7, 11):
            for m, a in claims(row, 60, q):
                self.assertIsNone(first_not(row, (m, a, q)))
                self.assertIs(shows_claim(row, (m, a, q), quotients(row, (m, a, q))), True)


if __name__ == "__main__":
    unittest.main()
