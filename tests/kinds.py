"""What the tests of late entries, shows, standing accounts and histories use: samples, wrong values, drawn ones."""

from tests.helpers import EXAMPLE
from tests.helpers import HUGE_DAY
from tests.helpers import HUGE_SUM
from tests.helpers import Numbers
from tests.helpers import ODD

# Of [19]: bills along the line, and shows of them that some payments lead to.
BILLS = (("bill", 1, 4), ("bill", 1, 3), ("bill", 5, 6))
SHOWS = ((1, (2, 3)), (3, (0, 1)), (6, (0, 0, 6)))

# Of the examples of [20] and [21].
STANDING = (("bill", 0, 7, 10), ("pay", 2, 3, 4))
HISTORY = (("bill", 1, 10), ("close", 5), ("pay", 3, 4), ("strike", 0))
COUNTED = (("bill", 1, 10), ("pay", 3, 4), ("bill", 2, 5))
SHOWN = ((2, 10), (4, 11))

ODD_BILLS = ODD + (
    0, [], list(BILLS), BILLS[0], (BILLS,), (None,), (("pay", 1, 4),), (("struck",),), BILLS + (("pay", 9, 1),),
    (("bill", 2, 1), ("bill", 1, 1)), BILLS + (("bill", 4, 1),), (["bill", 1, 4],), (("bill", 1),), (("bill", 1, 0),),
    (("bill", 1, -4),), (("bill", True, 4),), (("bill", 1, True),), (("bill", "1", 4),), (("bill", None, 4),),
    (("bill", 1, 4, 0),), (("Bill", 1, 4),), (("bill", 1, 4), ("named", 1, 4, 0)), (("bill", 1, "4"),), ("bill", 1, 4),
)
ODD_SHOWS = ODD + (
    0, list(SHOWS), SHOWS[0], (SHOWS,), tuple(map(list, SHOWS)), ((1,),), ((1, (2, 3), 0),), ((1, [2, 3]),), ((1, 2),),
    ((1, (2,)),), ((1, (2, 3, 0)),), ((0, (0,)),), ((5, (0, 0)),), ((1, (2, -1)),), ((1, (2, True)),), ((1, (False, 0)),),
    ((1, ("2", 3)),), ((1, (None, 3)),), ((1, (2, (3,))),), ((True, (2, 3)),), (("1", (2, 3)),), ((None, (2, 3)),),
    (((1,), (2, 3)),), ((1, (2, 3)), (1, (2, 3))), ((3, (0, 1)), (1, (2, 3))), SHOWS + ((6, (0, 0, 6)),),
    SHOWS + ((2, (0, 1)),), ((1, (2, 3)), None), ((0, None),), ((-HUGE_DAY, (0,)),), ((1, ()),),
)
ODD_STANDINGS = ODD + (
    0, [], list(STANDING), STANDING[0], (STANDING,), tuple(map(list, STANDING)), EXAMPLE, (("struck",),),
    (("bill", 0, 7),), (("bill", 0, 7, 10, 0),), (("named", 0, 7, 10),), (("Bill", 0, 7, 10),), ((None, 0, 7, 10),),
    ((["bill"], 0, 7, 10),), ((True, 0, 7, 10),), (("bill", True, 7, 10),), (("bill", "0", 7, 10),),
    (("bill", None, 7, 10),), (("bill", 0, 0, 10),), (("bill", 0, -7, 10),), (("bill", 0, True, 10),),
    (("bill", 0, "7", 10),), (("pay", 0, None, 10),), (("pay", 0, 7, 0),), (("pay", 0, 7, -10),), (("pay", 0, 7, True),),
    (("pay", 0, 7, "10"),), (("pay", 0, 7, (10,)),), STANDING + (None,), STANDING + (("struck",),),
)
ODD_HISTORIES = ODD + (
    0, [], list(HISTORY), HISTORY[0], (HISTORY,), tuple(map(list, HISTORY)), (("struck",),), (("bill",),), (("bill", 1),),
    (("bill", 1, 0),), (("bill", 1, -1),), (("bill", 1, True),), (("bill", True, 1),), (("bill", "1", 1),),
    (("bill", 1, None),), (("bill", 1, 2, 0),), (("named", 1, 2, 0),), (("bill", 1, 2), ("named", 1, 2, 0)),
    (("Bill", 1, 2),), (("pay", None, 2),), (("pay", 1, "2"),), (("pay", 1),), (["pay", 1, 2],), (("strike", 0),),
    (("bill", 1, 2), ("strike", 1)), (("bill", 1, 2), ("strike", -1)), (("bill", 1, 2), ("strike", False)),
    (("bill", 1, 2), ("strike", None)), (("bill", 1, 2), ("strike", "0")), (("bill", 1, 2), ("strike",)),
    (("bill", 1, 2), ("strike", 0, 0)), (("bill", 1, 2), ("strike", 0), ("strike", 0)),
    (("bill", 1, 2), ("strike", 0), ("change", 0, 1, 2)), (("change", 0, 1, 2),), (("bill", 1, 2), ("change", 0, 1)),
    (("bill", 1, 2), ("change", 0, 1, 0)), (("bill", 1, 2), ("change", 0, 1, -2)), (("bill", 1, 2), ("change", 1, 1, 2)),
    (("bill", 1, 2), ("change", False, 1, 2)), (("bill", 1, 2), ("change", 0, True, 2)),
    (("bill", 1, 2), ("change", 0, 1, True)), (("bill", 1, 2), ("change", 0, None, 2)),
    (("bill", 1, 2), ("change", 0, 1, 2, 3)), (("bill", 1, 2), ("change", -1, 1, 2)), (("close",),), (("close", None),),
    (("close", True),), (("close", "1"),), (("close", 1, 2),), (("close", 1), ("close", 1)), (("close", 1), ("close", 0)),
    (("close", 1), ("bill", 1, 1), ("close", 3), ("close", 2)), (("undo",),), (("undo", 0),), (("", 1, 2),),
    ((None, 1, 2),), (("bill", 1, 2), None), (("bill", 1, 2), ()), (("bill", 1, 2), [("strike", 0)]), ((("bill",), 1, 2),),
    ((["close"], 1),), ((0, 0),),
)
ODD_SHOWN = ODD + (
    0, list(SHOWN), SHOWN[0], (SHOWN,), tuple(map(list, SHOWN)), ((1,),), ((1, 2, 3),), ((True, 2),), ((1, False),),
    (("1", 2),), ((1, "2"),), ((None, 2),), ((1, None),), (((1,), 2),), ((1, (2,)),), ((1, 2), (1, 2)), ((2, 2), (1, 2)),
    ((1, 2), (3, 4), (2, 5)), ((1, 2), None), ([1, 2],),
)
ODD_DAY_LISTS = tuple([value for value in ODD if value not in ([], [1])]) + (
    0, (), (1, 2), (3,), [True], [1, True], [False, 1], ["1"], [1, None], [1, (2,)], [[1]], [1, 1], [2, 1], [1, 3, 2],
    [HUGE_DAY, -HUGE_DAY],
)
ODD_NUMBERS = ODD + (-1, -HUGE_SUM)
ODD_EVERIES = ODD + (0, -1, -HUGE_SUM)


def any_standing(seed, many, firsts=9, everies=(1, 2, 3, 4, 6), most=6, words=("bill", "pay")):
    """A standing account of so many entries."""
    numbers = Numbers(seed)
    rows = []
    for _ in range(many):
        word = words[numbers.below(len(words))]
        first = numbers.below(firsts) - firsts // 2
        rows.append((word, first, everies[numbers.below(len(everies))], 1 + numbers.below(most)))
    return tuple(rows)


def things_of(standing, word, end):
    """All bills, or payments, of days less than the end, along the line: tuples (day, index, sum)."""
    rows = [(row, index) for index, row in enumerate(standing) if row[0] == word]
    return sorted([(day, index, row[3]) for row, index in rows for day in range(row[1], end, row[2])])


def any_history(seed, many, days=8, most=9, words=("bill", "pay", "bill", "pay", "strike", "change", "close")):
    """A history of so many deeds; what cannot be done then is a bill."""
    numbers = Numbers(seed)
    deeds, alive, closed = [], [], None
    for _ in range(many):
        word = words[numbers.below(len(words))]
        day, much = numbers.below(days) - days // 2, 1 + numbers.below(most)
        if word == "close" and (closed is None or day > closed):
            closed = day
            deeds.append((word, day))
        elif word in ("strike", "change") and any(alive):
            index = [index for index, lives in enumerate(alive) if lives][numbers.below(sum(alive))]
            deeds.append((word, index) if word == "strike" else (word, index, day, much))
            alive[index] = word == "change"
        else:
            deeds.append(("pay" if word == "pay" else "bill", day, much))
            alive.append(True)
    return tuple(deeds)
