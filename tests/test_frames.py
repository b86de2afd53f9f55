"""Points 20 and 21, and 3 (d): round_of, vector_by, frame_of."""

import itertools
import unittest

from reckoning import PARTINGS, RESTS, asked, frame_in_fractions, round_as_written, scattered, vectors_by_words

from partrests.cores import core_of, is_core, size_of, vector
from partrests.errors import NoTurn, PartError
from partrests.frames import frame_of, round_of, vector_by

GREAT = 10 ** 60 - 1


def vector_of_frame(t, frame):
    """vector_by, number by number."""
    columns = vectors_by_words(t)
    return tuple(sum(frame[place] * columns[place][rest] for place in range(t)) for rest in range(t))


def size_by_words(numbers):
    t = len(numbers)
    return t * sum(number ** 2 for number in numbers) // 2 + sum(rest * number for rest, number in enumerate(numbers))


def size_by_frame(t, frame):
    """The size of a frame's vector, as it is told of frames."""
    squares = sum(number ** 2 for number in frame)
    products = sum(frame[place] * frame[(place + 1) % t] for place in range(t))
    return t * (squares - products) - (t - RESTS[t])


def is_whole_frame(frame):
    return all(number.denominator == 1 for number in frame)


def some_vectors(t):
    """Vectors of small numbers, all of them by 5 and 7, many by 11."""
    most = 2 if t == 5 else 1
    all_of_them = itertools.product(range(-most, most + 1), repeat=t - 1)
    for at, numbers in enumerate(all_of_them):
        if t < 11 or at % 29 == 0:
            yield numbers + (-sum(numbers),)


def some_frames(t):
    """Frames of small numbers, of one number alone, and of sixty figures, either sign."""
    told = [tuple(int(place == at) for place in range(t)) for at in range(t)]
    for at, numbers in enumerate(itertools.product((-1, 0, 2), repeat=t - 1)):
        if at % (1 if t == 5 else 7 if t == 7 else 311) == 0:
            told.append(numbers + (1 - sum(numbers),))
    for seed in range(10):
        numbers = scattered(t - 1, 1000, seed)
        told.append(tuple(numbers) + (1 - sum(numbers),))
    for at in range(t - 2):
        for great in (GREAT, -GREAT):
            frame = [0] * t
            frame[at], frame[at + 1], frame[at + 2] = great, -great, 1
            told.append(tuple(frame))
    half = t // 2
    told += [(GREAT,) * half + (-GREAT,) * half + (1,), (-GREAT, GREAT) * half + (1,), (1,) + (GREAT, -GREAT) * half]
    return told


class RoundOf(unittest.TestCase):
    def test_as_it_is_written(self):
        for t in RESTS:
            self.assertEqual(asked(round_of, t), round_as_written(t))

    def test_all_partings_of_c_each_once(self):
        for t, c in RESTS.items():
            told = asked(round_of, t)
            self.assertEqual(len(told), t)
            self.assertEqual(tuple(sorted(told)), PARTINGS[c])

    def test_each_is_a_core_and_its_frame_is_its_place(self):
        for t, c in RESTS.items():
            for place, parting in enumerate(round_of(t)):
                self.assertIs(is_core(parting, t), True)
                frame = tuple(int(place == at) for at in range(t))
                self.assertEqual(asked(frame_of, t, vector(parting, t)), frame)
                self.assertEqual(core_of(vector_by(t, frame)), parting)


class VectorBy(unittest.TestCase):
    def test_number_by_number(self):
        for t in RESTS:
            for frame in some_frames(t):
                self.assertEqual(sum(frame), 1)
                told = asked(vector_by, t, frame)
                self.assertEqual(told, vector_of_frame(t, frame), (t, frame))
                self.assertEqual(sum(told), 0)

    def test_the_size_is_as_told(self):
        for t, c in RESTS.items():
            for frame in some_frames(t):
                told = size_of(vector_by(t, frame))
                self.assertEqual(told, size_by_frame(t, frame), (t, frame))
                self.assertEqual(told % t, c)


class FrameOf(unittest.TestCase):
    def refused(self, t, numbers):
        with self.assertRaises(NoTurn) as kept:
            frame_of(t, numbers)
        self.assertIsInstance(kept.exception, PartError)

    def looked_at(self, t, numbers):
        """Whether there is a frame; looked at on the way is what frame_of says of it."""
        frame = frame_in_fractions(t, numbers)
        self.assertEqual(size_by_words(numbers) % t == RESTS[t], is_whole_frame(frame), (t, numbers))
        if not is_whole_frame(frame):
            self.refused(t, numbers)
            return False
        told = asked(frame_of, t, numbers)
        self.assertEqual(told, tuple(int(number) for number in frame), (t, numbers))
        self.assertEqual(vector_of_frame(t, told), numbers)
        return True

    def test_there_and_back(self):
        for t in RESTS:
            for frame in some_frames(t):
                self.assertEqual(asked(frame_of, t, vector_by(t, frame)), frame, (t, frame))

    def test_refused_just_where_there_is_none(self):
        for t in RESTS:
            told = [self.looked_at(t, numbers) for numbers in some_vectors(t)]
            self.assertGreater(told.count(True), 50)
            self.assertGreater(told.count(False), 200)

    def test_the_vector_of_noughts_is_refused(self):
        for t in RESTS:
            self.refused(t, (0,) * t)

    def test_one_off_is_refused(self):
        for t in RESTS:
            for frame in some_frames(t)[-8:]:
                numbers = list(vector_by(t, frame))
                # Moving one from a rest to the next one leaves another size by t.
                numbers[0] -= 1
                numbers[1] += 1
                self.refused(t, tuple(numbers))

    def test_vectors_of_64_figures(self):
        for t in RESTS:
            for great in (10 ** 64 - 1, 1 - 10 ** 64):
                found = []
                for more in range(t):
                    numbers = [great, -more, -great, more] + [0] * (t - 4)
                    found.append(self.looked_at(t, tuple(numbers)))
                # Each step of more leaves another rest by t, so that just one of them has a frame.
                self.assertEqual(found.count(True), 1)

    def test_each_core_of_such_a_weight_has_a_frame(self):
        for t, c in RESTS.items():
            for n in range(24):
                for parting in PARTINGS[n] if n < 17 else PARTINGS[n][::9]:
                    if is_core(parting, t):
                        self.assertEqual(self.looked_at(t, vector(parting, t)), n % t == c, (t, parting))


if __name__ == "__main__":
    unittest.main()
