"""Point 22, and 3 (e): turned_on, share."""

import unittest

from reckoning import PARTINGS, RESTS, apart_by_words, asked, enough_beads, frame_in_fractions, partings_of_great
from reckoning import refusal, round_as_written, vector_by_words

from partrests.cores import apart, core_of, joined
from partrests.errors import NoTurn
from partrests.frames import vector_by
from partrests.turning import share, turned_on


def frame_by_words(t, parting):
    """The frame of the parting's core, by elimination in fractions."""
    core = apart_by_words(parting, t, enough_beads(parting, t))[0]
    frame = frame_in_fractions(t, vector_by_words(core, t, enough_beads(core, t)))
    assert all(number.denominator == 1 for number in frame), (t, parting, frame)
    return [int(number) for number in frame]


def quotients_by_words(t, parting):
    return apart_by_words(parting, t, enough_beads(parting, t))[1]


def share_by_words(t, parting):
    total = 0
    for place, number in enumerate(frame_by_words(t, parting)):
        total += place * number
    return total - total // t * t


def great_weights(t):
    """Some weights to 300 that leave c by t, the greatest one among them."""
    fitting = [n for n in range(301) if n % t == RESTS[t]]
    return [fitting[0], fitting[1], fitting[len(fitting) // 3], fitting[-2], fitting[-1]]


def great_cores(t):
    """Cores of great weights, to 300, by frames of numbers far from nought."""
    told = []
    for at in range(t):
        for far in (1, 2, 3, 4):
            for beside in (1, 2, t // 2):
                frame = [0] * t
                frame[at] += 1 + far
                frame[(at + beside) % t] -= far
                core = core_of(vector_by(t, tuple(frame)))
                if sum(core) <= 300:
                    told.append(core)
    return told


def small_ones(t):
    """All partings of the small weights that leave c by t."""
    return [parting for n in range(23) if n % t == RESTS[t] for parting in PARTINGS[n]]


class TurnedOn(unittest.TestCase):
    def looked_at(self, t, parting):
        told = asked(turned_on, t, parting)
        self.assertEqual(list(told), sorted(told, reverse=True))
        self.assertEqual(sum(told), sum(parting))
        # Quotients and the frame of the core together have just one parting.
        self.assertEqual(quotients_by_words(t, told), quotients_by_words(t, parting), (t, parting))
        frame = frame_by_words(t, parting)
        self.assertEqual(frame_by_words(t, told), [frame[t - 1]] + frame[:t - 1], (t, parting))
        return told

    def test_by_the_frame_of_the_core(self):
        for t in RESTS:
            for parting in small_ones(t):
                if sum(parting) < 18 or parting[0] % 3 == 0:
                    self.looked_at(t, parting)

    def test_great_weights(self):
        for t in RESTS:
            for n in great_weights(t):
                for parting in partings_of_great(n):
                    self.looked_at(t, parting)

    def test_great_cores_with_and_without_quotients(self):
        for t in RESTS:
            cores = great_cores(t)
            self.assertGreater(max(sum(core) for core in cores), 200)
            for core in cores:
                self.assertEqual(apart(self.looked_at(t, core), t)[1], ((),) * t)
                room = (300 - sum(core)) // t
                if room >= 3:
                    self.looked_at(t, joined(core, ((),) * (t - 2) + ((room - 2,), (1, 1))))

    def test_the_round_is_turned_round(self):
        for t in RESTS:
            there = round_as_written(t)
            for place, parting in enumerate(there):
                self.assertEqual(asked(turned_on, t, parting), there[(place + 1) % t])

    def test_through_just_t_partings_and_back(self):
        for t in RESTS:
            for parting in small_ones(t):
                met = [parting]
                for turn in range(t):
                    met.append(turned_on(t, met[-1]))
                self.assertEqual(met[t], parting)
                self.assertEqual(len(set(met)), t)

    def test_through_just_t_great_partings_and_back(self):
        for t in RESTS:
            for n in great_weights(t):
                for parting in partings_of_great(n):
                    met = [parting]
                    for turn in range(t):
                        met.append(turned_on(t, met[-1]))
                    self.assertEqual(met[t], parting)
                    self.assertEqual(len(set(met)), t)

    def test_no_two_are_turned_to_one(self):
        for t in RESTS:
            told = [turned_on(t, parting) for parting in small_ones(t)]
            self.assertEqual(sorted(told), sorted(small_ones(t)))


class Share(unittest.TestCase):
    def test_by_the_frame_of_the_core(self):
        for t in RESTS:
            for parting in small_ones(t):
                if sum(parting) < 18 or parting[0] % 3 == 0:
                    self.assertEqual(asked(share, t, parting), share_by_words(t, parting), (t, parting))

    def test_great_weights_and_cores(self):
        for t in RESTS:
            great = [parting for n in great_weights(t) for parting in partings_of_great(n)]
            for parting in great + great_cores(t):
                self.assertEqual(asked(share, t, parting), share_by_words(t, parting), (t, parting))

    def test_of_the_round_it_is_the_place(self):
        for t in RESTS:
            for place, parting in enumerate(round_as_written(t)):
                self.assertEqual(asked(share, t, parting), place)

    def test_each_turn_adds_one(self):
        for t in RESTS:
            great = [parting for n in great_weights(t) for parting in partings_of_great(n)]
            for parting in small_ones(t) + great + great_cores(t):
                self.assertEqual(share(t, turned_on(t, parting)), (share(t, parting) + 1) % t, (t, parting))

    def test_shared_out_evenly(self):
        for t, c in RESTS.items():
            for n in range(c, 29, t):
                found = [share(t, parting) for parting in PARTINGS[n]]
                self.assertEqual([found.count(rest) * t for rest in range(t)], [len(PARTINGS[n])] * t, (t, n))


class Refused(unittest.TestCase):
    def test_just_where_another_rest_is_left(self):
        for t, c in RESTS.items():
            for n in range(14):
                for parting in PARTINGS[n]:
                    due = None if n % t == c else NoTurn
                    self.assertIs(refusal(turned_on, t, parting), due, (t, parting))
                    self.assertIs(refusal(share, t, parting), due, (t, parting))

    def test_great_weights(self):
        for t, c in RESTS.items():
            for n in (60, 99, 150, 200) + tuple(range(285, 301)):
                for parting in partings_of_great(n):
                    due = None if n % t == c else NoTurn
                    self.assertIs(refusal(turned_on, t, parting), due, (t, parting))
                    self.assertIs(refusal(share, t, parting), due, (t, parting))

    def test_the_parting_of_nought(self):
        for t in RESTS:
            self.assertIs(refusal(turned_on, t, ()), NoTurn)
            self.assertIs(refusal(share, t, ()), NoTurn)


if __name__ == "__main__":
    unittest.main()
