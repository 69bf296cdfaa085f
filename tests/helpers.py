"""What several tests use: accounts, wrong values, and the rule of [4] gone through step by step."""

from oldestbills.errors import BillError

SEQUENCES = ("days", "entered")
CHOICES = ("oldest", "newest", "greatest", "least")
MANNERS = tuple((sequence, choice) for sequence in SEQUENCES for choice in CHOICES)
OLDEST = ("days", "oldest")

# The account of the examples of [9].
EXAMPLE = (("bill", 1, 10), ("bill", 3, 10), ("pay", 4, 15), ("pay", 2, 4))

# One entry of each word; the bill 0 is named from behind, the bill 4 from ahead.
MIXED = (
    ("bill", 1, 6), ("pay", 2, 4), ("struck",), ("named", 5, 3, 4),
    ("bill", 1, 7), ("named", 1, 2, 0), ("bill", 9, 2),
)

HUGE_DAY = 10 ** 39 + 7
HUGE_SUM = 10 ** 30


def nested(depth):
    """A tuple in a list in a tuple, and so on."""
    value = ()
    for step in range(depth):
        value = [value] if step // 2 * 2 == step else (value,)
    return value


# Values that are none of the kinds that have parameters of their own.
ODD = (
    None, True, False, "", "1", "bill", "days", (None,), [], [1], [()], (1, "2"), ((),), ([],), (("",),),
    ("struck",), ("bill", 1, 2), nested(20), BillError("odd"), tuple([None] * 1999),
)

ODD_ENTRIES = (
    None, 7, "struck", (), [], ["struck"], ("struck", 0), ("Bill", 1, 2), ("", 1, 2), (None, 1, 2), (True, 1, 2),
    (("bill",), 1, 2), (["bill"], 1, 2), ("bill",), ("bill", 1), ("bill", 1, 2, 3), ["bill", 1, 2],
    ("bill", True, 2), ("bill", "1", 2), ("bill", None, 2), ("bill", (1,), 2), ("bill", [1], 2),
    ("bill", 1, 0), ("bill", 1, -1), ("bill", 1, True), ("bill", 1, "2"), ("bill", 1, None), ("bill", 1, [2]),
    ("pay",), ("pay", 1), ("pay", 1, 2, 0), ["pay", 1, 2], ("pay", False, 2), ("pay", "", 2), ("pay", 1, 0),
    ("pay", 1, -2), ("pay", 1, False), ("pay", 1, (2,)), ("bills", 1, 2), ("payment", 1, 2), ("struck", 1, 2),
    ("named", 1, 2), ("named", 1, 2, 0, 0), ["named", 1, 2, 0], ("named", True, 2, 0), ("named", "1", 2, 0),
    ("named", 1, 0, 0), ("named", 1, -1, 0), ("named", 1, True, 0), ("named", 1, None, 0), ("named", 1, 2, False),
    ("named", 1, 2, "0"), ("named", 1, 2, None), ("named", 1, 2, (0,)), ("named", 1, 2, [0]),
)

# Behind ("bill", 1, 9), ("pay", 1, 9), ("struck",), ("named", 1, 9, 0), ("bill", 3, 9) at the index 5.
ODD_NAMES = (
    ("named", 1, 2, -1), ("named", 1, 2, -6), ("named", 1, 2, 6), ("named", 1, 2, 100), ("named", 1, 2, 10 ** 30),
    ("named", 1, 2, 1), ("named", 1, 2, 2), ("named", 1, 2, 3), ("named", 1, 2, 5), ("named", 0, 2, 0),
    ("named", 2, 2, 4), ("named", -1, 2, 0),
)
NAMEABLE = (("bill", 1, 9), ("pay", 1, 9), ("struck",), ("named", 1, 9, 0), ("bill", 3, 9))

ODD_ACCOUNTS = tuple(
    [value for value in ODD]
    + [0, 7, -1, list(EXAMPLE), tuple(map(list, EXAMPLE)), "struck", ("bill", 1, 10), (EXAMPLE,), [EXAMPLE]]
    + [(entry,) for entry in ODD_ENTRIES]
    + [(("bill", 1, 2), entry) for entry in ODD_ENTRIES]
    + [NAMEABLE + (entry,) for entry in ODD_NAMES]
    + [(("named", 1, 2, 1), ("bill", 2, 2)), (("named", 1, 2, 1), ("pay", 1, 2)), (("named", 1, 2, 1), ("struck",))]
)

ODD_MANNERS = tuple(
    [value for value in ODD]
    + [
        0, 1, "days oldest", (), ("days",), ("oldest",), ["days", "oldest"], ("days", "oldest", "oldest"),
        ("oldest", "days"), ("days", "days"), ("day", "oldest"), ("days", "eldest"), ("Days", "oldest"),
        ("days", "Oldest"), ("days", ""), ("", "oldest"), ("days", None), (None, "oldest"), (True, False),
        (0, 0), (["days"], "oldest"), ("days", ["oldest"]), (("days",), ("oldest",)), ("entered", 0),
        ("sequence", "choice"), ("days", ("oldest",)),
    ]
)

ODD_DAYS = tuple(value for value in ODD)
ODD_SUMS = tuple(value for value in ODD) + (0, -1, -HUGE_SUM)
ODD_EDGES = tuple(value for value in ODD) + (
    0, 3, (1, 1), (2, 1), (1, 2, 2), (0, 2, 1), [1, 2], (1, True), (False, 1), ("1",), (1, None), (1, (2,)), ((1, 2),),
    (-1, -2), (HUGE_DAY, -HUGE_DAY),
)


def odd_indexes(account, words):
    """Values that are no index of an entry of the account with one of these words."""
    others = [index for index, entry in enumerate(account) if entry[0] not in words]
    return tuple(value for value in ODD) + tuple(others) + (-1, -len(account), len(account), 10 ** 30)


class Numbers:
    """Integers from a seed: the same ones on each machine."""

    def __init__(self, seed):
        self.state = seed * 7919 + 104729

    def below(self, bound):
        """An integer from 0 on, less than the bound."""
        number = 0
        for _ in range(1 + (bound.bit_length() - 1) // 31):
            self.state = (self.state * 6364136223846793005 + 1442695040888963407) % 2 ** 64
            number = number * 2 ** 31 + self.state // 2 ** 33
        return number % bound


def any_account(seed, many, days=8, most=9, words=("bill", "bill", "pay", "pay", "named", "struck")):
    """An account of so many entries; named payments name any bill that they can."""
    numbers = Numbers(seed)
    rows = []
    for _ in range(many):
        word = words[numbers.below(len(words))]
        rows.append((word, numbers.below(days) - days // 2, 1 + numbers.below(most)))
    return tuple([settled(rows, row, numbers) for row in rows])


def settled(rows, row, numbers):
    """The entry of a row of word, day and sum."""
    if row[0] == "struck":
        return ("struck",)
    bills = [index for index, other in enumerate(rows) if other[0] == "bill" and other[1] <= row[1]]
    if row[0] != "named":
        return row
    if not bills:
        return ("pay", row[1], row[2])
    return ("named", row[1], row[2], bills[numbers.below(len(bills))])


def plain_account(seed, many, days=8, most=9):
    """An account without named payments."""
    return any_account(seed, many, days, most, ("bill", "bill", "bill", "pay", "pay", "pay", "struck"))


class Rule:
    """The rule of [4], gone through entry by entry, one part of a sum after the other."""

    def __init__(self, account, manner):
        self.account, (self.sequence, self.choice) = account, manner
        self.open_sums, self.waiting, self.pairs = {}, {}, {}
        alive = [index for index, entry in enumerate(account) if entry[0] != "struck"]
        for index in sorted(alive, key=self.age) if self.sequence == "days" else alive:
            if account[index][0] == "bill":
                self.meet_bill(index)
            else:
                self.meet_payment(index)

    def age(self, index):
        return (self.account[index][1], index)

    def lay(self, bill, payment):
        much = min(self.open_sums[bill], self.waiting[payment])
        self.open_sums[bill] -= much
        self.waiting[payment] -= much
        self.pairs[(bill, payment)] = self.pairs.get((bill, payment), 0) + much

    def meet_bill(self, bill):
        self.open_sums[bill] = self.account[bill][2]
        while self.open_sums[bill] and any(self.waiting.values()):
            self.lay(bill, min([payment for payment in self.waiting if self.waiting[payment]], key=self.age))

    def meet_payment(self, payment):
        self.waiting[payment] = self.account[payment][2]
        named = self.account[payment][3] if self.account[payment][0] == "named" else None
        if self.open_sums.get(named, 0) > 0:
            self.lay(named, payment)
        while self.waiting[payment] and any(self.open_sums.values()):
            self.lay(self.chosen([bill for bill in self.open_sums if self.open_sums[bill]]), payment)

    def chosen(self, bills):
        if self.choice == "oldest":
            return min(bills, key=self.age)
        if self.choice == "newest":
            return max(bills, key=self.age)
        best = (max if self.choice == "greatest" else min)([self.open_sums[bill] for bill in bills])
        return min([bill for bill in bills if self.open_sums[bill] == best], key=self.age)

    def laying(self):
        return sorted([(bill, payment, much) for (bill, payment), much in self.pairs.items()])
