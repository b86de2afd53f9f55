"""The tests' own reckoning: nothing here is drawn from the program."""

import copy
import fractions
import re


def all_partings(n):
    """All partings of n, rising, each grown out of one of n - 1 by one."""
    found = {()}
    for step in range(n):
        grown = set()
        for parting in found:
            grown.add(parting + (1,))
            for at in range(len(parting)):
                if at == 0 or parting[at - 1] > parting[at]:
                    grown.add(parting[:at] + (parting[at] + 1,) + parting[at + 1:])
        found = grown
    return tuple(sorted(found))


PARTINGS = {n: all_partings(n) for n in range(31)}


def small_partings(most):
    """All partings of 0 to most, one behind another."""
    return [parting for n in range(most + 1) for parting in PARTINGS[n]]


GREAT_PARTINGS = (
    (300,),
    (1,) * 300,
    tuple(range(24, 0, -1)),
    (150, 150),
    (299, 1),
    (2,) * 150,
    (2,) + (1,) * 298,
    (17,) * 17 + (11,),
    (100, 60, 60, 30, 20, 10, 10, 5, 1, 1, 1, 1, 1),
)


def is_own(parting):
    """Whether a parting turned is the same, by the cells of its drawing."""
    cells = {(row, at) for row, part in enumerate(parting) for at in range(part)}
    return cells == {(at, row) for row, at in cells}


def is_of_kind(kind, parting):
    """Whether a parting is of a kind, by the document's words."""
    word, given = kind[0], kind[1:]
    if word == "all":
        return True
    if word == "most":
        return not any(part > given[0] for part in parting)
    if word == "few":
        return not len(parting) > given[0]
    if word == "box":
        return not any(part > given[0] for part in parting) and not len(parting) > given[1]
    if word == "off":
        return all(one >= nearest + given[0] for one, nearest in zip(parting, parting[1:]))
    if word == "times":
        return all(parting.count(part) < given[0] for part in parting)
    if word == "rests":
        return all(any((part - rest) % given[0] == 0 for rest in given[1]) for part in parting)
    assert word == "own", word
    return is_own(parting)


def small_kinds():
    """Kinds of every word, with numbers that matter to small partings and with their bounds."""
    some = (1, 2, 3, 4, 5, 7, 10, 15, 29, 30, 31, 60, 599, 600)
    told = [("all",), ("own",)]
    for word in ("most", "few", "off"):
        told += [(word, number) for number in some]
    told += [("box", k, l) for k in (1, 2, 3, 5, 10, 29, 30, 60, 599, 600) for l in (1, 2, 4, 6, 30, 60, 599, 600)]
    told += [("times", m) for m in (2, 3, 4, 5, 10, 30, 31, 59, 60)]
    for m in (2, 3, 4, 5):
        for mask in range(1, 2 ** m):
            told.append(("rests", m, tuple(rest for rest in range(m) if mask >> rest & 1)))
    told += [("rests", 60, (0,)), ("rests", 60, (59,)), ("rests", 60, (0, 59)), ("rests", 60, tuple(range(60)))]
    told += [("rests", 59, (1, 5, 58)), ("rests", 7, (1, 6)), ("rests", 30, (0, 7, 29))]
    return told


def is_told(thing):
    """Whether a thing is made of tuples, whole numbers, texts, truths and None alone."""
    if type(thing) is tuple:
        return all(is_told(inner) for inner in thing)
    return thing is None or type(thing) in (int, str, bool)


def same(one, other):
    """Whether two things are alike and of the same kinds, so that 1 and True are told apart."""
    return one == other and repr(one) == repr(other)


def asked(deed, *given):
    """What the deed tells; checked on the way is all that is promised of everything told."""
    kept = copy.deepcopy(given)
    told = deed(*given)
    again = deed(*given)
    assert is_told(told), ("of another kind", deed, told)
    assert same(told, again), ("told otherwise when asked again", deed, told, again)
    assert same(given, kept), ("changed what was handed in", deed, given, kept)
    return told


def nested(inner, wrap, deep):
    """A thing wrapped so many times."""
    for step in range(deep):
        inner = wrap(inner)
    return inner


def odd_things():
    """Things that are no tuples, and some tuples of such: neither partings nor kinds."""
    plain = [
        None, True, False, 0, 1, -1, 2, 10 ** 30, -10 ** 30, "", "all", "own", "1", "most 3", b"", b"all", b"1",
        [], [1], [2, 1], ["all"], ["most", 3], {}, {1: 1}, {"all": ()}, set(), {1}, {"all"}, frozenset(), frozenset({1}),
        range(0), range(1), range(3, 0, -1), bytearray(b"a"), len, int, tuple, Exception("all"), slice(1, 2), ...,
        NotImplemented, 1j, lambda: (1,), iter((1,)),
    ]
    wrapped = [(thing,) for thing in plain if not (type(thing) is int and thing > 0) and thing not in ("all", "own")]
    wrapped += [(1, thing) for thing in plain if not (type(thing) is int and thing == 1)]
    deep = []
    for inner in ((), 1, None, "all", True, [1], ("all",)):
        for many in (1, 2, 3, 29):
            deep.append(nested((inner,), lambda thing: (thing,), many))
            deep.append(nested((inner,), lambda thing: (1, thing), many))
            deep.append(nested((inner,), lambda thing: (thing, 1), many))
            deep.append(nested((inner,), lambda thing: [thing], many))
            deep.append(nested((inner,), lambda thing: {"all": thing}, many))
    return plain + wrapped + deep


class Prickly:
    """A thing that takes no question well: it is to be told as none, without an error."""

    def __eq__(self, other):
        raise RuntimeError("not to be compared")

    def __lt__(self, other):
        raise RuntimeError("not to be compared")

    __gt__ = __le__ = __ge__ = __ne__ = __lt__

    def __hash__(self):
        raise RuntimeError("not to be a key")

    def __bool__(self):
        raise RuntimeError("no truth")

    def __len__(self):
        raise RuntimeError("not long")


GREAT_NUMBERS = (1, 2, 3, 7, 59, 60, 61, 300, 597, 598, 599, 600)


def great_kinds():
    """Kinds of every word with their numbers at their bounds, near them and between, for great counts."""
    told = [("all",), ("own",)]
    for word in ("most", "few", "off"):
        told += [(word, number) for number in GREAT_NUMBERS]
    told += [("times", m) for m in (2, 3, 7, 59, 60)]
    told += [("rests", 2, (0,)), ("rests", 2, (1,)), ("rests", 2, (0, 1)), ("rests", 5, (1, 4)), ("rests", 5, (2, 3)),
             ("rests", 60, (0,)), ("rests", 60, (59,)), ("rests", 60, (0, 59)), ("rests", 60, (1, 7, 30)),
             ("rests", 60, tuple(range(60))), ("rests", 59, tuple(range(1, 59)))]
    some = (1, 2, 60, 599, 600)
    told += [("box", k, l) for k in some for l in some] + [("box", 12, 20), ("box", 25, 24), ("box", 300, 301)]
    return told


def scattered(many, most, seed):
    """A list of so many numbers from -most to most that follow no plain rule, the same each time."""
    told = []
    for step in range(many):
        seed = (seed * 1103515245 + 12345) % 2 ** 31
        told.append(seed // 64 % (2 * most + 1) - most)
    return told


def multiplied(one, other):
    """Both rows multiplied, to the shorter one's length, by going through all pairs of places."""
    many = min(len(one), len(other))
    told = [0] * many
    for i in range(many):
        for j in range(many - i):
            told[i + j] += one[i] * other[j]
    return tuple(told)


def product_by_words(powers):
    """product, place by place in the words of the document."""
    row = [1] + [0] * len(powers)
    for i, power in enumerate(powers, start=1):
        for turn in range(abs(power)):
            for n in range(i, len(row)) if power > 0 else range(len(row) - 1, i - 1, -1):
                row[n] += row[n - i] if power > 0 else -row[n - i]
    return tuple(row)


def rank_by_parts(parting):
    """rank, part by part."""
    greatest = many = 0
    for part in parting:
        greatest = max(greatest, part)
        many += 1
    return greatest - many


def mark_by_parts(parting):
    """mark, part by part."""
    greatest = ones = above = 0
    for part in parting:
        greatest = max(greatest, part)
        ones += 1 if part == 1 else 0
    for part in parting:
        above += 1 if part > ones else 0
    return above - ones if ones else greatest


def beads_by_words(parting, k):
    """The set of beads: each part, noughts behind them, and how many stand behind it put to it."""
    parts = list(parting) + [0] * (k - len(parting))
    return {part + len(parts[at + 1:]) for at, part in enumerate(parts)}


def parting_by_gaps(beads):
    """The parting that has these beads: each bead's part is how many places below it are free."""
    parts = [len([place for place in range(bead) if place not in beads]) for bead in beads]
    return tuple(sorted([part for part in parts if part > 0], reverse=True))


def vector_by_words(parting, t, k):
    """For each rest how many beads leave it, less k // t, where k is some multiple of t."""
    beads = beads_by_words(parting, k)
    return tuple(len([bead for bead in beads if bead % t == rest]) - k // t for rest in range(t))


def enough_beads(parting, t):
    """The least k for beads of the parting by t."""
    return min(k for k in range(0, len(parting) + t, t) if k >= len(parting))


def apart_by_words(parting, t, k):
    """apart, with k beads, in the words of the document."""
    beads = beads_by_words(parting, k)
    by_rest = [[bead for bead in beads if bead % t == rest] for rest in range(t)]
    least = {rest + t * at for rest in range(t) for at in range(len(by_rest[rest]))}
    quotients = tuple(parting_by_gaps({(bead - rest) // t for bead in by_rest[rest]}) for rest in range(t))
    return (parting_by_gaps(least), quotients)


RESTS = {5: 4, 7: 5, 11: 6}

ROUNDS_AS_WRITTEN = {
    5: "4, 2+2, 1+1+1+1, 2+1+1, 3+1",
    7: "5, 3+1+1, 1+1+1+1+1, 3+2, 2+1+1+1, 4+1, 2+2+1",
    11: "6, 2+2+2, 3+1+1+1, 4+2, 2+1+1+1+1, 3+2+1, 5+1, 2+2+1+1, 4+1+1, 3+3, 1+1+1+1+1+1",
}


def round_as_written(t):
    return tuple(tuple(int(part) for part in word.split("+")) for word in ROUNDS_AS_WRITTEN[t].split(", "))


def vectors_by_words(t):
    return [vector_by_words(parting, t, enough_beads(parting, t)) for parting in round_as_written(t)]


def inverse(rows):
    """The matrix that undoes this one, in fractions, row by row."""
    many = len(rows)
    rows = [[fractions.Fraction(number) for number in row] + [fractions.Fraction(int(at == other)) for other in
            range(many)] for at, row in enumerate(rows)]
    for at in range(many):
        best = next(row for row in range(at, many) if rows[row][at] != 0)
        rows[at], rows[best] = rows[best], rows[at]
        rows[at] = [number / rows[at][at] for number in rows[at]]
        for other in range(many):
            if other != at:
                rows[other] = [one - rows[other][at] * two for one, two in zip(rows[other], rows[at])]
    return [row[many:] for row in rows]


def undoing(t):
    """What leads a vector's numbers, 1 in the place of the last one, to the frame's, whole or not."""
    columns = vectors_by_words(t)
    rows = [[column[rest] for column in columns] for rest in range(t - 1)]
    return inverse(rows + [[1] * t])


UNDOING = {t: undoing(t) for t in RESTS}


def frame_in_fractions(t, numbers):
    given = list(numbers[:-1]) + [1]
    return [sum(one * two for one, two in zip(row, given)) for row in UNDOING[t]]


def refusal(deed, *given):
    """The class by which the deed refuses, None where it tells something; asked twice, and of unchanged things."""
    kept = repr(given)
    found = []
    for time in range(2):
        try:
            deed(*given)
            found.append(None)
        except ValueError as error:
            found.append(type(error))
    assert found[0] is found[1], ("refused otherwise when asked again", deed, found)
    assert repr(given) == kept, ("changed what was handed in", deed, given, kept)
    return found[0]


def scattered_parting(n, most, seed):
    """A parting of n with no part above most that follows no plain rule, the same each time."""
    parts = []
    for number in scattered(n, 10 ** 6, seed):
        left = n - sum(parts)
        if left > 0:
            parts.append(1 + abs(number) % min(left, most))
    return tuple(sorted(parts, reverse=True))


def partings_of_great(n):
    """Some partings of a great number n: of one part, of ones, of like parts, in steps, and by no plain rule."""
    told = [(n,), (1,) * n, (n - 1, 1), (2,) * (n // 2) + (1,) * (n % 2), (n - n // 2, n // 2)]
    stairs = []
    while sum(stairs) + len(stairs) + 1 <= n:
        stairs.append(len(stairs) + 1)
    told.append(tuple(sorted(stairs + [n - sum(stairs)] * (n > sum(stairs)), reverse=True)))
    told += [scattered_parting(n, most, seed) for seed, most in enumerate((3, 8, 20, 60, n))]
    return told


def less_by_counts(parting, other):
    """The parting with each part of the other taken off once, or None, by how often each size stands."""
    left = []
    for size in sorted(set(parting + other), reverse=True):
        if parting.count(size) < other.count(size):
            return None
        left += [size] * (parting.count(size) - other.count(size))
    return tuple(left)


def are_events_by_words(thing):
    """are_events, in the words of the document."""
    if type(thing) is not tuple or len(thing) > 12:
        return False
    for event in thing:
        if type(event) is not tuple or len(event) == 0 or not all(type(part) is int for part in event):
            return False
        if min(event) < 1 or sorted(event, reverse=True) != list(event):
            return False
    return not any(size in other for at, event in enumerate(thing) for size in event for other in thing[at + 1:])


def odd_events():
    """Things that look like events in part: of other kinds, too many, a size in two, no parting among them."""
    good = ((3, 1, 1), (2,), (5,))
    told = [
        list(good), {event: True for event in good}, set(good), frozenset(good), iter(good), "321", b"321",
        ([3, 1, 1], (2,)), ((3, 1, 1), [2]), ((2,), None), (None,), (True,), ((True,),), ((2, True),), ((False,),),
        ((0,),), ((2, 0),), ((-1,),), ((1, 2),), ((2, 1, 2),), ((),), ((2,), ()), ((), (2,)), ((2,), (3,), ()),
        ((2,), (2,)), ((2, 1), (3, 1)), ((5, 2, 2), (3,), (4, 2)), ((1, 1), (1,)), ((9,), (8,), (9, 9)),
        (((2,),),), ((2,), ((3,),)), ("21",), ((2,), "3"), (("2",),), ((2,), ("3",)), (b"21",), ((b"2",),), (2,),
        (2, 1), ((2,), 3), (3, (2,)), ({2},), ({2: 1},), (range(1),), ((10 ** 40,), [1]), (1j,), ((1j,),), (len,),
        tuple((size,) for size in range(1, 14)), tuple((size, size) for size in range(13, 0, -1)), ((1,),) * 13,
        ((),) * 3,
        (Prickly(),), ((Prickly(),),), ((2, Prickly()),), ((2,), Prickly()), ((Prickly(), 2), (1,)),
    ]
    for inner in ((2,), (), 2, good, None, [2]):
        for wrap in (lambda thing: (thing,), lambda thing: [thing], lambda thing: ((2,), thing),
                     lambda thing: (thing, 1)):
            told += [nested(inner, wrap, many) for many in (1, 2, 3, 29, 30)]
    return told


def parting_as_written(parting):
    """The text of a parting, sign by sign."""
    text = ""
    for part in parting:
        text += f"+{part}"
    return text[1:] if parting else "-"


def kind_as_written(kind):
    """The text of a kind, sign by sign."""
    text = kind[0]
    for number in kind[1:]:
        text += " " + repr(number).strip("(),").replace(", ", ",")
    return text


def changed_texts(text):
    """Texts near this one: a sign left out, put in, exchanged, two neighbours in the other order."""
    signs = "01259 +-,#\nax~"
    told = [text, text + text, text[::-1], text.upper()]
    for place in range(len(text) + 1):
        told += [text[:place] + sign + text[place:] for sign in signs]
    for place in range(len(text)):
        told.append(text[:place] + text[place + 1:])
        told += [text[:place] + sign + text[place + 1:] for sign in signs]
        told.append(text[:place] + text[place:place + 2][::-1] + text[place + 2:])
    return told


NUMBER = "(?:0|[1-9][0-9]{0,5})"


def falls(parting):
    return list(parting) == sorted(parting, reverse=True)


def parting_by_form(text):
    """The parting that a text is by its form, None where it is none."""
    if text == "-":
        return ()
    if len(text) > 2000 or not re.fullmatch(rf"{NUMBER}(?:\+{NUMBER})*", text):
        return None
    parts = tuple(int(word) for word in re.findall("[0-9]+", text))
    return parts if falls(parts) and min(parts) > 0 else None


def kind_by_form(text):
    """The kind that a text is by its form, None where it is none."""
    if text in ("all", "own"):
        return (text,)
    found = re.fullmatch(rf"(most|few|off|times) ({NUMBER})", text)
    if found:
        number = int(found[2])
        fits = 2 <= number <= 60 if found[1] == "times" else 1 <= number <= 600
        return (found[1], number) if fits else None
    found = re.fullmatch(rf"box ({NUMBER}) ({NUMBER})", text)
    if found:
        k, l = int(found[1]), int(found[2])
        return ("box", k, l) if 1 <= k <= 600 and 1 <= l <= 600 else None
    found = re.fullmatch(rf"rests ({NUMBER}) ({NUMBER}(?:,{NUMBER})*)", text)
    if found:
        m, rests = int(found[1]), tuple(int(word) for word in found[2].split(","))
        fits = 2 <= m <= 60 and list(rests) == sorted(set(rests)) and rests[-1] < m
        return ("rests", m, rests) if fits else None
    return None
