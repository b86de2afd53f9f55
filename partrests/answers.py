"""Lines that ask for one thing each, answered by a text."""

from partrests.claims import first_not, is_claim
from partrests.cores import apart
from partrests.counting import counts
from partrests.errors import NoLine, NoText
from partrests.kinds import listed
from partrests.pairing import merged, paired, split
from partrests.partings import turned, weight
from partrests.places import at, place_of
from partrests.ranks import mark, rank
from partrests.reading import is_number, is_text, read_kind, read_parting
from partrests.showing import drawn, show_parting
from partrests.spreads import first_uneven, shares
from partrests.turning import share, turned_on
from partrests.wholes import is_within

MOST_NUMBER = 999999
MOST_WEIGHT = 300
MOST_COUNTED = 600
MOST_LISTED = 30
MOST_SHARED = 100
MOST_PLACED = 150
MOST_CORE = 12
LEAST_DIVISOR = 2
MOST_DIVISOR = 60
TURNS = (5, 7, 11)


def number_in(word, least, most):
    """The number that the word is, from least to most."""
    if not is_number(word) or not is_within(int(word), least, most):
        raise NoLine("a number isn't written as numbers are, or lies beyond its bounds")
    return int(word)


def parting_in(word, most):
    """The parting that the word is, of a weight of at most so much."""
    try:
        parting = read_parting(word)
    except NoText:
        raise NoLine("a parting isn't written as partings are") from None
    if weight(parting) > most:
        raise NoLine("a parting weighs more than the line allows for")
    return parting


def kind_in(words):
    """The kind that the words are."""
    try:
        return read_kind(" ".join(words))
    except NoText:
        raise NoLine("a kind isn't written as kinds are") from None


def kind_ahead(words, many):
    """The kind ahead of so many last words, and these."""
    # Of too few words none are left for the kind, and no kind is written so.
    return (kind_in(words[:-many]), words[-many:])


def placed_kind_ahead(words, many):
    """The kind, one by which partings have places, ahead of so many last words, and these."""
    kind, behind = kind_ahead(words, many)
    if kind == ("own",):
        raise NoLine("there are no places by this kind")
    return (kind, behind)


def look_for(words, many):
    """Refuses words that aren't so many."""
    if len(words) != many:
        raise NoLine("the line has too few words, or too many")


def which_in(word):
    """Which of rank and mark the word is."""
    if word not in ("rank", "mark"):
        raise NoLine("the word is neither rank nor mark")
    return word


def only_parting(words):
    """The parting that is all the words."""
    look_for(words, 1)
    return parting_in(words[0], MOST_WEIGHT)


def number_and_parting(words, least, most):
    """The number from least to most and the parting that are all the words."""
    look_for(words, 2)
    return (number_in(words[0], least, most), parting_in(words[1], MOST_WEIGHT))


def turn_and_parting(words):
    """The number to turn by and the parting that are all the words."""
    t, parting = number_and_parting(words, min(TURNS), max(TURNS))
    if t not in TURNS:
        raise NoLine("nothing is turned by this number")
    return (t, parting)


def parted_by_blanks(partings):
    """The texts of the partings, blanks between."""
    return " ".join([show_parting(parting) for parting in partings])


def number_or(number, word):
    """The number by its figures; the word where there is none."""
    return word if number is None else str(number)


def answer_count(words):
    """Of KIND N: how many partings there are."""
    kind, behind = kind_ahead(words, 1)
    n = number_in(behind[0], 0, MOST_COUNTED)
    return str(counts(kind, n)[n])


def answer_list(words):
    """Of KIND N: the partings."""
    kind, behind = kind_ahead(words, 1)
    told = listed(kind, number_in(behind[0], 0, MOST_LISTED))
    return parted_by_blanks(told) if told else "none"


def answer_rank(words):
    """Of P: its rank."""
    return str(rank(only_parting(words)))


def answer_mark(words):
    """Of P: its mark."""
    return str(mark(only_parting(words)))


def answer_shares(words):
    """Of W N T: the shares."""
    look_for(words, 3)
    which = which_in(words[0])
    n = number_in(words[1], 0, MOST_SHARED)
    t = number_in(words[2], LEAST_DIVISOR, MOST_DIVISOR)
    return " ".join([str(many) for many in shares(which, n, t)])


def answer_uneven(words):
    """Of W T A MOST: the first number of uneven shares."""
    look_for(words, 4)
    which = which_in(words[0])
    t = number_in(words[1], LEAST_DIVISOR, MOST_DIVISOR)
    a = number_in(words[2], 0, t - 1)
    most = number_in(words[3], 0, MOST_SHARED)
    return number_or(first_uneven(which, t, a, most), "even")


def answer_claim(words):
    """Of KIND M A Q MOST: the first place where the claim isn't so."""
    kind, behind = kind_ahead(words, 4)
    claim = tuple([number_in(word, 0, MOST_NUMBER) for word in behind[:-1]])
    most = number_in(behind[-1], 0, MOST_COUNTED)
    if not is_claim(claim):
        raise NoLine("the numbers aren't those of a claim")
    return number_or(first_not(counts(kind, most), claim), "all")


def answer_core(words):
    """Of T P: the core and the quotients."""
    t, parting = number_and_parting(words, 1, MOST_CORE)
    core, quotients = apart(parting, t)
    return parted_by_blanks((core,) + quotients)


def answer_turn(words):
    """Of T P: the parting turned on."""
    t, parting = turn_and_parting(words)
    return show_parting(turned_on(t, parting))


def answer_share(words):
    """Of T P: its share."""
    t, parting = turn_and_parting(words)
    return str(share(t, parting))


def answer_place(words):
    """Of KIND P: its place."""
    kind, behind = placed_kind_ahead(words, 1)
    return str(place_of(kind, parting_in(behind[0], MOST_PLACED)))


def answer_at(words):
    """Of KIND N K: the parting at this place."""
    kind, behind = placed_kind_ahead(words, 2)
    n = number_in(behind[0], 0, MOST_PLACED)
    return show_parting(at(kind, n, number_in(behind[1], 0, MOST_NUMBER)))


def answer_merge(words):
    """Of M P: the parting merged."""
    m, parting = number_and_parting(words, LEAST_DIVISOR, MOST_DIVISOR)
    return show_parting(merged(parting, m))


def answer_split(words):
    """Of M P: the parting split."""
    m, parting = number_and_parting(words, LEAST_DIVISOR, MOST_DIVISOR)
    return show_parting(split(parting, m))


def answer_pair(words):
    """Of P: the parting that it is paired with."""
    told = paired(only_parting(words))
    return "none" if told is None else show_parting(told)


def answer_turned(words):
    """Of P: the parting turned."""
    return show_parting(turned(only_parting(words)))


def answer_draw(words):
    """Of P: its drawing."""
    return drawn(only_parting(words))


DEEDS = {
    "count": answer_count,
    "list": answer_list,
    "rank": answer_rank,
    "mark": answer_mark,
    "shares": answer_shares,
    "uneven": answer_uneven,
    "claim": answer_claim,
    "core": answer_core,
    "turn": answer_turn,
    "share": answer_share,
    "place": answer_place,
    "at": answer_at,
    "merge": answer_merge,
    "split": answer_split,
    "pair": answer_pair,
    "turned": answer_turned,
    "draw": answer_draw,
}


def answer(line):
    """The text that answers the line."""
    if not is_text(line):
        raise NoLine("this is no text, or too long")
    words = line.split(" ")
    word = words[0]
    if word not in DEEDS:
        raise NoLine("the line begins with none of the words that ask for something")
    deed = DEEDS[word]
    return deed(words[1:])
