"""A console: commands in words over a ledger."""

from oldestbills.charges import cost_by
from oldestbills.checks import CHOICES
from oldestbills.checks import SEQUENCES
from oldestbills.days import open_as_of
from oldestbills.days import owed
from oldestbills.days import waiting
from oldestbills.errors import InvalidCommand
from oldestbills.errors import InvalidWords
from oldestbills.layings import laid_by
from oldestbills.ledgers import Ledger
from oldestbills.readers import Reader
from oldestbills.words import write_account

MOST_TRIES = 8
# Indexes and graces have at most 7 digits.
GREATEST_NUMBER = 9999999


def put_bill(ledger, day, much):
    """Enters a bill; the number of moved pairs."""
    return str(ledger.bill(day, much))


def put_pay(ledger, day, much):
    """Enters a payment; the number of moved pairs."""
    return str(ledger.pay(day, much))


def put_for(ledger, bill, day, much):
    """Enters a payment that names a bill; the number of moved pairs."""
    return str(ledger.named(day, much, bill=bill))


def put_strike(ledger, index):
    """Strikes an entry; the number of moved pairs."""
    return str(ledger.strike(index))


def put_change(ledger, index, day, much):
    """Changes an entry; the number of moved pairs."""
    return str(ledger.change(index, day, much))


def put_undo(ledger):
    """Takes back the last deed; its word."""
    return ledger.undo()


def put_owed(ledger, day):
    """What is owed on a day."""
    return str(owed(ledger.account, day))


def put_waiting(ledger, day):
    """What waits on a day."""
    return str(waiting(ledger.account, day))


def put_pairs(ledger):
    """The laying."""
    return rows_text(ledger.laying)


def put_by(ledger, sequence, choice):
    """The laying by another manner."""
    return rows_text(laid_by(ledger.account, (sequence, choice)))


def put_statement(ledger, day):
    """The bills that are open as of a day."""
    return rows_text(open_as_of(ledger.account, ledger.manner, day))


def put_cost(ledger, grace):
    """What the laying costs by a grace."""
    return str(cost_by(ledger.account, ledger.laying, ("late", grace)))


def put_account(ledger):
    """The text of the account."""
    return write_account(ledger.account)


def rows_text(rows):
    """The text of tuples of numbers."""
    texts = [":".join([str(number) for number in row]) for row in rows]
    return " ".join(texts) if len(texts) > 0 else "-"


# For each command what puts it out, and the kinds of the words behind its first one.
ANSWERS = {
    "bill": put_bill, "pay": put_pay, "for": put_for, "strike": put_strike, "change": put_change, "undo": put_undo,
    "owed": put_owed, "waiting": put_waiting, "pairs": put_pairs, "by": put_by, "open": put_statement, "cost": put_cost,
    "account": put_account,
}
KINDS = {
    "bill": ("day", "sum"), "pay": ("day", "sum"), "for": ("number", "day", "sum"), "strike": ("number",),
    "change": ("number", "day", "sum"), "undo": (), "owed": ("day",), "waiting": ("day",), "pairs": (),
    "by": ("sequence", "choice"), "open": ("day",), "cost": ("number",), "account": (),
}


def read_command(command):
    """The tuple of the number of words `try`, of the word behind them and of its values."""
    if not isinstance(command, str):
        raise InvalidCommand("not a string")
    try:
        return taken_command(Reader(command))
    except InvalidWords:
        raise InvalidCommand("not a command") from None


def taken_command(reader):
    """Takes all words as those of a command."""
    tries = 0
    while tries < MOST_TRIES and reader.is_next("try"):
        reader.take()
        tries = tries + 1
    word = reader.take_one_of(list(ANSWERS))
    told = []
    for kind in KINDS[word]:
        told.append(taken_value(reader, kind))
    reader.take_end()
    return tries, word, told


def taken_value(reader, kind):
    """Takes the next word as a value of a kind."""
    if kind == "day":
        return reader.take_day()
    if kind == "sum":
        return reader.take_sum()
    if kind == "number":
        return reader.take_integer(0, GREATEST_NUMBER)
    return reader.take_one_of(SEQUENCES if kind == "sequence" else CHOICES)


class Console:
    """A ledger that is led by commands in words."""

    def __init__(self, manner):
        self._ledger = Ledger(manner)

    def execute(self, command):
        """Does what a command says; what it puts out."""
        tries, word, told = read_command(command)
        ledger = self._ledger
        if tries > 0:
            # A block on a copy: nothing is changed here, whatever is raised. One block is as good as several.
            ledger = self._ledger.twin()
            ledger.begin()
        answer = ANSWERS[word]
        return answer(ledger, *told)
