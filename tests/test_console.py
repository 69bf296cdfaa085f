"""[25]: the console against the ledger and the functions."""

import unittest

from oldestbills.charges import cost
from oldestbills.console import Console
from oldestbills.days import owed
from oldestbills.days import statement
from oldestbills.days import waiting
from oldestbills.errors import BillError
from oldestbills.errors import InvalidBill
from oldestbills.errors import InvalidCommand
from oldestbills.errors import InvalidDay
from oldestbills.errors import InvalidIndex
from oldestbills.errors import InvalidManner
from oldestbills.errors import NothingToUndo
from oldestbills.errors import StillNamed
from oldestbills.layings import laid
from oldestbills.ledgers import Ledger
from oldestbills.words import read_account
from oldestbills.words import write_account
from oldestbills.words import write_manner
from tests.helpers import EXAMPLE
from tests.helpers import MANNERS
from tests.helpers import Numbers
from tests.helpers import ODD
from tests.helpers import ODD_MANNERS
from tests.helpers import OLDEST

ASKING = (
    ["pairs", "account"] + ["owed " + str(day) for day in range(-1, 9, 3)] + ["waiting " + str(day) for day in (0, 4, 9)]
    + ["by " + write_manner(manner) for manner in MANNERS] + ["open 3", "open -4", "open 9999999", "cost 0", "cost 2"]
)
# Commands that are none.
ODD_COMMANDS = ODD + (
    0, b"pairs", ["pairs"], ("pairs",), " pairs", "pairs ", "pairs\n", "pairs pairs", "Pairs", "pair", "", " ", "-", "then",
    "named 1 2 0", "struck", "quit", "bill", "bill 1", "bill 1 2 3", "bill  1 2", "bill 1  2", "bill 1 2 ", "bill 1 2\n",
    "bill 01 2", "bill -0 2", "bill +1 2", "bill 1 02", "bill 1 0", "bill 1 -2", "bill 1 x", "bill x 2", "bill 1.0 2",
    "bill 10000000 2", "bill -10000000 2", "bill 1 1" + "0" * 31, "bill 1 " + "9" * 32, "bill " + "9" * 3900 + " 2",
    "pay", "pay 1", "pay 1 0", "pay 1 2 3", "pay -0 1", "for", "for 0", "for 0 1", "for 0 1 0", "for -1 1 2", "for 00 1 2",
    "for 10000000 1 2", "for x 1 2", "for 0 x 2", "for 0 1 x", "for 0 1 2 3", "strike", "strike -1", "strike x",
    "strike 10000000", "strike 0 0", "strike 00", "strike -0", "change", "change 0", "change 0 1", "change 0 1 0",
    "change 0 1 2 3", "change -1 1 2", "change 0 -0 2", "change 10000000 1 2", "undo 1", "undo undo", "owed", "owed x",
    "owed 1 2", "owed 10000000", "owed -0", "waiting", "waiting 01", "by", "by days", "by oldest days", "by days oldest 1",
    "by days eldest", "by Days oldest", "open", "open x", "open 1 2", "cost", "cost -1", "cost x", "cost 10000000", "cost 0 0",
    "account 1", "account -", "try", "try ", "try  pairs", " try pairs", "try x", "try try", "try pairs x", "try bill 1",
    "try bill 1 0", " ".join(["try"] * 9 + ["pairs"]), " ".join(["try"] * 8), " ".join(["try"] * 40), "pairs try", "try 1 pairs",
)


def told_rows(rows):
    return " ".join([":".join(map(str, row)) for row in rows]) or "-"


def told_by(ledger, command):
    """What a command is to put out, by the methods of a ledger and the functions."""
    word, *words = command.split(" ")
    if word == "by":
        return told_rows(laid(ledger.account, tuple(words)))
    numbers = [int(part) for part in words]
    account = ledger.account
    calls = {
        "bill": ledger.bill, "pay": ledger.pay, "strike": ledger.strike, "change": ledger.change, "undo": ledger.undo,
        "for": lambda bill, day, much: ledger.named(day, much, bill=bill),
        "owed": lambda day: owed(account, day), "waiting": lambda day: waiting(account, day),
        "pairs": lambda: told_rows(laid(account, ledger.manner)),
        "open": lambda day: told_rows(statement(account, ledger.manner, day)),
        "cost": lambda late: cost(account, laid(account, ledger.manner), ("late", late)),
        "account": lambda: write_account(account),
    }
    return str(calls[word](*numbers))


def any_command(ledger, numbers):
    """A deed in words, or undo; also with indexes that the account has not."""
    word = ("bill", "bill", "pay", "for", "for", "strike", "change", "undo")[numbers.below(8)]
    index, day, much = numbers.below(len(ledger.account) + 1), numbers.below(9) - 2, 1 + numbers.below(12)
    told = {"for": [index, day, much], "strike": [index], "change": [index, day, much], "undo": []}
    return " ".join([word] + [str(part) for part in told.get(word, [day, much])])


class ConsoleTest(unittest.TestCase):
    def test_by_hand(self):
        console = Console(OLDEST)
        self.assertEqual([console.execute(command) for command in ("account", "pairs", "open 9", "owed 1", "cost 0")], [
            "-", "-", "-", "0", "0"])
        commands = ("bill 1 10", "bill 3 10", "pay 4 15", "pay 2 4")
        self.assertEqual([console.execute(command) for command in commands], ["0", "0", "2", "3"])
        self.assertEqual(console.execute("pairs"), "0:2:6 0:3:4 1:2:9")
        self.assertEqual(console.execute("by entered oldest"), "0:2:10 1:2:5 1:3:4")
        self.assertEqual((console.execute("owed 3"), console.execute("waiting 3")), ("16", "0"))
        self.assertEqual((console.execute("open 3"), console.execute("open 4")), ("0:6 1:10", "1:1"))
        self.assertEqual((console.execute("cost 0"), console.execute("cost 1")), ("31", "12"))
        self.assertEqual(console.execute("account"), "bill 1 10 then bill 3 10 then pay 4 15 then pay 2 4")
        self.assertEqual(read_account(console.execute("account")), EXAMPLE)
        self.assertEqual(console.execute("for 1 4 1"), "1")
        self.assertEqual([console.execute(command) for command in ("strike 3", "change 0 1 5", "undo")], ["3", "3", "change"])
        self.assertEqual(console.execute(command="account"), (
            "bill 1 10 then bill 3 10 then pay 4 15 then struck then for 1 4 1"))

    def test_manners(self):
        for manner in ODD_MANNERS:
            self.assertRaises(InvalidManner, Console, manner)
        console = Console(manner=("days", "newest"))
        for command in ("bill 1 10", "bill 3 10", "pay 4 15"):
            console.execute(command)
        self.assertEqual((console.execute("pairs"), console.execute("open 4")), ("0:2:5 1:2:10", "0:5"))

    def test_each_command_against_the_ledger_and_the_functions(self):
        raised = []
        for seed in range(40):
            numbers, manner = Numbers(seed), MANNERS[seed % 8]
            console, ledger = Console(manner), Ledger(manner)
            for _ in range(25):
                command = any_command(ledger, numbers)
                self.try_alike(console, ledger, command)
                raised.append(self.run_alike(console, ledger, command))
                self.assertEqual(console.execute("account"), write_account(ledger.account))
            for command in ASKING:
                self.assertEqual(console.execute(command), told_by(ledger, command))
                self.assertEqual(console.execute("try " + command), told_by(ledger, command))
            while len(ledger) > 0:
                self.assertEqual(console.execute("undo"), ledger.undo())
        for error in (InvalidBill, InvalidDay, InvalidIndex, StillNamed, NothingToUndo, None):
            self.assertGreater(raised.count(error), 3, error)

    def run_alike(self, console, ledger, command):
        """Runs it on both; the error that both raise, or None."""
        try:
            told = told_by(ledger, command)
        except BillError as error:
            with self.assertRaises(BillError) as caught:
                console.execute(command)
            self.assertIs(type(caught.exception), type(error), command)
            return type(error)
        self.assertEqual(console.execute(command), told, command)
        return None

    def try_alike(self, console, ledger, command):
        """What try puts out is what the command does on a twin, in a block; nothing is changed by it."""
        before = console.execute("account")
        for tries in (1, 2, 8):
            other = ledger.twin()
            other.begin()
            self.run_alike(TriedConsole(console, tries), other, command)
            self.assertEqual(console.execute("account"), before)

    def test_undo_in_a_block(self):
        console = Console(OLDEST)
        self.assertRaises(NothingToUndo, console.execute, "undo")
        console.execute("bill 1 2")
        for command in ("try undo", "try try undo", "try " * 8 + "undo"):
            self.assertRaises(NothingToUndo, console.execute, command)
        self.assertEqual((console.execute("try bill 1 2"), console.execute("undo")), ("0", "bill"))
        self.assertRaises(NothingToUndo, console.execute, "undo")
        self.assertEqual(console.execute("account"), "-")

    def test_commands_that_are_none(self):
        console = Console(OLDEST)
        console.execute("bill 1 9")
        console.execute("pay 2 4")
        for command in ODD_COMMANDS:
            with self.assertRaises(BillError, msg=repr(command)) as caught:
                console.execute(command)
            self.assertIs(type(caught.exception), InvalidCommand, command)
            if isinstance(command, str):
                for head in ("try ", "try try "):
                    self.assertRaises(InvalidCommand, console.execute, head + command)
            self.assertEqual(console.execute("account"), "bill 1 9 then pay 2 4")
        self.assertEqual(console.execute("undo"), "pay")

    def test_try_up_to_eight_deep(self):
        console = Console(OLDEST)
        for tries in range(9):
            self.assertEqual(console.execute("try " * tries + "owed 1"), "0")
        self.assertRaises(InvalidCommand, console.execute, "try " * 9 + "owed 1")
        self.assertEqual(console.execute("try " * 8 + "bill 1 5"), "0")
        self.assertEqual(console.execute("account"), "-")
        self.assertRaises(NothingToUndo, console.execute, "undo")

    def test_numbers_of_many_digits(self):
        console = Console(OLDEST)
        for command, told in (
            ("bill 9999999 " + "9" * 31, "0"), ("bill -9999999 1", "0"), ("pay 0 1" + "0" * 30, "2"),
            ("owed 9999999", "9" + "0" * 30),
        ):
            self.assertEqual(console.execute(command), told)
        self.assertEqual(console.execute("cost 9999999"), "0")
        for command, error in (
            ("for 9999999 1 1", InvalidBill), ("for 2 1 1", InvalidBill), ("for 0 9999998 1", InvalidDay),
            ("strike 9999999", InvalidIndex), ("strike 3", InvalidIndex), ("change 9999999 1 1", InvalidIndex),
            ("change 3 1 1", InvalidIndex),
        ):
            for tries in ("", "try ", "try try "):
                before = console.execute("account")
                with self.assertRaises(BillError) as caught:
                    console.execute(tries + command)
                self.assertIs(type(caught.exception), error)
                self.assertEqual(console.execute("account"), before)

    def test_the_errors_of_the_deeds(self):
        console = Console(OLDEST)
        for command in ("bill 3 9", "for 0 4 1", "bill 5 5", "strike 2"):
            console.execute(command)
        for command, error in (
            ("for 1 9 1", InvalidBill), ("for 2 9 1", InvalidBill), ("for 0 2 1", InvalidDay), ("strike 2", InvalidIndex),
            ("strike 0", StillNamed), ("change 1 2 1", InvalidDay), ("change 0 5 1", StillNamed), ("change 2 1 1", InvalidIndex),
        ):
            with self.assertRaises(BillError) as caught:
                console.execute(command)
            self.assertIs(type(caught.exception), error, command)
            self.assertEqual(console.execute("account"), "bill 3 9 then for 0 4 1 then struck")
        self.assertEqual([console.execute("undo") for _ in range(4)], ["strike", "bill", "named", "bill"])

    def test_as_the_interface_lists_it(self):
        self.assertEqual(Console.__module__, "oldestbills.console")
        self.assertIn("execute", vars(Console))


class TriedConsole:
    """A console that puts so many words try ahead of each command."""

    def __init__(self, console, tries):
        self.console, self.tries = console, tries

    def execute(self, command):
        return self.console.execute("try " * self.tries + command)


if __name__ == "__main__":
    unittest.main()
