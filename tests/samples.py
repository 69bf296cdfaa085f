"""What the tests of charges, tariffs, rough accounts and sequences use: samples, wrong values, all that can be."""

import itertools

from oldestbills.entries import bills_of
from oldestbills.entries import payments_of
from tests.helpers import EXAMPLE
from tests.helpers import HUGE_SUM
from tests.helpers import Numbers
from tests.helpers import ODD

# The layings of the examples of [15].
ONE = [(0, 2, 6), (0, 3, 4), (1, 2, 9)]
TWO = [(0, 2, 10), (1, 2, 5), (1, 3, 4)]
LEAST = [(0, 2, 1)]

KINDS = (("late", 0), ("late", 1), ("late", 3), ("late", 10 ** 30), ("apart",), ("squares",))
TARIFF = (-1, ((-2, 1), (0, 2), (3, 1)))
LONG_TARIFF = (-5, tuple([(3 * k - 30, 1 + k // 2) for k in range(20)]))
TARIFFS = (
    (0, ()), (7, ()), (-3, ()), (0, ((0, 1),)), (0, ((-4, 2),)), (-1, ((0, 2),)), TARIFF, LONG_TARIFF,
    (3, ((-10, 1), (1, 5), (2, 1))), (-10 ** 29, ((-10 ** 29, 10 ** 29), (1, 1), (10 ** 29, 3))),
)

# Of the examples of [9]: rough bills of the days 1 and 2, a payment of day 3.
ROUGH = (("bill", 1, 5, 10), ("bill", 2, 5, 10), ("pay", 3, 6, 8))

ODD_LAYINGS = tuple(ODD[:8]) + ODD[10:] + (
    0, 7, (), tuple(ONE), ONE[0], [list(row) for row in ONE], ONE[::-1], [(0, 2, 6), (0, 2, 4)], [(0, 2, 6), (0, 2, 6)],
    [(0, 2, 11)], [(0, 2, 10), (1, 2, 6)], [(0, 3, 5)], [(0, 3, 4), (1, 3, 1)], [(0, 2, 10), (0, 3, 1)], [(0, 2, 0)],
    [(0, 2, -1)], [(0, 2, True)], [(False, 2, 1)], [(True, 2, 1)], [(0, 2, "1")], [(0, 2)], [(0, 2, 1, 1)], [(2, 0, 1)],
    [(0, 1, 1)], [(-1, 2, 1)], [(0, -1, 1)], [(0, 4, 1)], [(4, 2, 1)], [None], [[0, 2, 1]], [(0, 2, 6), None],
    [(0, None, 1)], [([0], 2, 1)], [(0, 2, 10 ** 39)],
)
ODD_KINDS = ODD + (
    0, "late", "apart", (), ("late",), ["late", 0], ("late", 0, 0), ("late", -1), ("late", True), ("late", "0"),
    ("late", None), ("late", (0,)), ("apart", 0), ["apart"], ("Apart",), ("squares", 2), ("square",), (("apart",),),
    (["squares"],), (0,), ("",), ("late", -HUGE_SUM),
)
ODD_TARIFFS = ODD + (
    0, (), (0,), (0, []), [0, ()], (0, (), ()), (True, ()), ("0", ()), (None, ()), (0, None), (0, 5), (0, "corners"),
    (0, (0, 1)), (0, ([0, 1],)), (0, [(0, 1)]), (0, ((0,),)), (0, ((0, 1, 1),)), (0, ((0, 0),)), (0, ((0, -1),)),
    (0, ((False, 1),)), (0, ((0, True),)), (0, (("0", 1),)), (0, ((0, "1"),)), (0, ((None, 1),)), (0, ((0, None),)),
    (0, ((0, 1), (0, 1))), (0, ((1, 1), (0, 1))), (0, ((0, 1), (2, 1), (1, 1))), (0, ((0, 1), None)), (((0, 1),), 0),
    (0, ((0, 1), (1, (1,)))), (0, (((0,), 1),)),
)
# In the laying TWO of EXAMPLE.
ODD_EXCHANGES = ODD + (
    0, (), (0, 2, 1, 3), (0, 2, 1, 3, 4, 0), [0, 2, 1, 3, 4], (0, 2, 1, 3, 0), (0, 2, 1, 3, -1), (0, 2, 1, 3, 5),
    (0, 2, 1, 3, HUGE_SUM), (0, 2, 1, 3, True), (False, 2, 1, 3, 4), (0, 2, True, 3, 4), (0, 2, 1, 3, "4"),
    (0, 2, 1, 3, None), (None, 2, 1, 3, 4), (0, 2, 1, (3,), 4), ([0], 2, 1, 3, 4), (1, 3, 0, 2, 4), (0, 3, 1, 2, 1),
    (0, 2, 1, 2, 1), (1, 2, 1, 3, 1), (0, 2, 0, 2, 1), (0, 3, 1, 3, 1), (2, 0, 3, 1, 1), (0, 2, 1, 7, 1),
    (-4, 2, 1, 3, 1), (0, 2, 1, -1, 1), ((0, 2), (1, 3), 4),
)
# For accounts of four entries, and of seven.
ODD_ORDERS = ODD + (
    0, (), (0,), [0, 1, 2, 3], (0, 1, 2), (0, 1, 2, 2), (0, 1, 1, 3), (1, 2, 3, 4), (0, 1, 2, 3, 4), (0, 1, 2, 3, 3),
    (-1, 0, 1, 2), (0, 1, 2, -1), (False, 1, 2, 3), (0, True, 2, 3), (0, 1, 2, "3"), (0, 1, 2, None), (0, 1, 2, (3,)),
    (0, 1, 2, [3]), "0123", [0, 1, 2, 3, 4, 5, 6], (0, 1, 2, 3, 4, 5), (0, 1, 2, 3, 4, 5, 5), (0, True, 2, 3, 4, 5, 6),
    (0, 1, 2, 3, 4, 5, 10 ** 39),
)
ODD_ROUGHS = ODD + (
    0, "bill", [], list(ROUGH), tuple(map(list, ROUGH)), ROUGH[0], (ROUGH,), EXAMPLE, (("bill", 1, 5),), (("struck",),),
    (("bill", 1, 5, 10, 0),), (["bill", 1, 5, 10],), (("named", 1, 5, 10),), (("Bill", 1, 5, 10),), ((None, 1, 5, 10),),
    ((["bill"], 1, 5, 10),), ((True, 1, 5, 10),), (("bill", True, 5, 10),), (("bill", "1", 5, 10),),
    (("bill", None, 5, 10),), (("bill", 1, 0, 10),), (("bill", 1, -1, 10),), (("bill", 1, True, 10),),
    (("bill", 1, "5", 10),), (("bill", 1, 5, 4),), (("pay", 1, 5, 0),), (("pay", 1, 1, True),), (("pay", 1, 5, "9"),),
    (("pay", 1, 5, None),), (("pay", 1, 5, (9,)),), ROUGH + (None,), ROUGH + (("struck",),), ROUGH + (("pay", 3, 8, 7),),
)


def older(entries, index, other):
    """Whether the entry is ahead of the other one on the line."""
    return (entries[index][1], index) < (entries[other][1], other)


def any_laying(account, numbers, most=10 ** 30):
    """A laying of an account: pairs in any sequence, each with a part of what is left."""
    pairs = [(bill, payment) for bill in bills_of(account) for payment in payments_of(account)]
    left = {index: entry[2] for index, entry in enumerate(account) if entry[0] != "struck"}
    laying = []
    while pairs:
        bill, payment = pairs.pop(numbers.below(len(pairs)))
        much = min(left[bill], left[payment], most)
        if much and numbers.below(3):
            much = 1 + numbers.below(much)
        if much and numbers.below(4):
            laying.append((bill, payment, much))
            left[bill] -= much
            left[payment] -= much
    return sorted(laying)


def mixed_up(account, laying, numbers, times=12):
    """An akin laying: parts of two pairs change their payments, some times, whatever it costs."""
    sums = {(bill, payment): much for bill, payment, much in laying}
    for _ in range(times if len(sums) > 1 else 0):
        pairs = sorted(sums)
        (b, p), (c, q) = pairs[numbers.below(len(pairs))], pairs[numbers.below(len(pairs))]
        if b == c or p == q:
            continue
        much = 1 + numbers.below(min(sums[(b, p)], sums[(c, q)]))
        for pair, more in (((b, p), -much), ((c, q), -much), ((b, q), much), ((c, p), much)):
            sums[pair] = sums.get(pair, 0) + more
        sums = {pair: sums[pair] for pair in sums if sums[pair]}
    return sorted([(bill, payment, much) for (bill, payment), much in sums.items()])


def sides(laying):
    """What is laid on each bill, and of each payment."""
    on, of = {}, {}
    for bill, payment, much in laying:
        on[bill] = on.get(bill, 0) + much
        of[payment] = of.get(payment, 0) + much
    return on, of


def all_akin(laying):
    """All layings that lay the same sums on each bill and of each payment."""
    on, of = sides(laying)
    return [sorted(rows) for rows in rows_with(sorted(on.items()), of)]


def rows_with(on, of):
    """All lists of tuples that lay these sums on the bills and of the payments."""
    if not on:
        yield []
        return
    bill, much = on[0]
    payments = sorted(of)
    for parts in itertools.product(*[range(min(much, of[payment]) + 1) for payment in payments]):
        if sum(parts) == much:
            left = {payment: of[payment] - part for payment, part in zip(payments, parts)}
            rows = [(bill, payment, part) for payment, part in zip(payments, parts) if part]
            for others in rows_with(on[1:], left):
                yield rows + others


def told_charge(tariff, delay):
    """What [15] says that a tariff charges."""
    total = tariff[0] * delay
    for at, more in tariff[1]:
        if delay > at:
            total += more * (delay - at)
    return total


def told_cost(account, laying, tariff):
    """What it charges for a laying."""
    return sum([much * told_charge(tariff, account[p][1] - account[b][1]) for b, p, much in laying])


def any_rough(seed, many, days=4, most=4, wide=3):
    """A rough account of so many entries."""
    numbers = Numbers(seed)
    rows = []
    for _ in range(many):
        least = 1 + numbers.below(most)
        word = ("bill", "pay")[numbers.below(2)]
        rows.append((word, numbers.below(days) - 1, least, least + numbers.below(wide)))
    return tuple(rows)


def all_accounts(rough):
    """All accounts that a rough one stands for."""
    for sums in itertools.product(*[range(least, greatest + 1) for _, _, least, greatest in rough]):
        yield tuple((entry[0], entry[1], much) for entry, much in zip(rough, sums))
