"""Packs of so many unlike kinds: each set of so many of the kinds is one pack, and all packs are alike."""

from kindsgathered.fractions import NOUGHT, is_fraction, mean_led
from kindsgathered.shares import MOST_KINDS
from kindsgathered.whole import check_whole_within, power

MOST_SIZE = 3
MOST_PACKS = 8


def check_pack(many, size):
    """Refuse what is no number of kinds, then what is no size of a pack of so many."""
    check_whole_within(many, 1, MOST_KINDS)
    check_whole_within(size, 1, min(many, MOST_SIZE))


def sets_of(many, few):
    """How many sets of few there are of many; none where few are more than many."""
    count = 1
    for step in range(few):
        # Behind each step it is the number of sets of so many, so the division leaves no rest.
        count = count * (many - step) // (step + 1)
    return count


def pack_many(many, size):
    """How many packs there are."""
    check_pack(many, size)
    return sets_of(many, size)


def pack_cases(many, size, number):
    """In how many of all rows of so many packs all kinds come."""
    check_pack(many, size)
    check_whole_within(number, 0, MOST_PACKS)
    # The rows may be far too many to go through. All are counted at once; those that lack a kind are taken out; those
    # that lack two were taken out twice, and are put in again; and so on.
    count = 0
    for lacking in range(many + 1):
        rows = sets_of(many, lacking) * power(sets_of(many - lacking, size), number)
        if lacking % 2 == 0:
            count += rows
        else:
            count -= rows
    return count


def due_packs(numbers, many, size, left):
    """The mean number of packs still to come for so many kinds left, by the numbers for fewer."""
    ways = []
    for brought in range(1, min(left, size) + 1):
        packs = sets_of(left, brought) * sets_of(many - left, size - brought)
        ways.append((packs, numbers[left - brought]))
    return mean_led(sets_of(many, size), ways)


def pack_paper(many, size):
    """The pack paper: for each number of kinds left the mean number of packs still to come."""
    check_pack(many, size)
    numbers = [NOUGHT]
    for left in range(1, many + 1):
        numbers.append(due_packs(numbers, many, size, left))
    return numbers


def pack_mean(many, size):
    """The mean number of packs until all kinds have come."""
    check_pack(many, size)
    return pack_paper(many, size)[many]


def is_pack_paper(thing, many, size):
    """Whether a thing of whatever kind is a pack paper."""
    check_pack(many, size)
    if not isinstance(thing, list) or len(thing) != many + 1:
        return False
    if not all([is_fraction(number) for number in thing]) or thing[0] != NOUGHT:
        return False
    return all([thing[left] == due_packs(thing, many, size, left) for left in range(1, many + 1)])
