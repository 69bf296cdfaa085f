"""[24]: accounts, rough accounts and manners as texts; the first word that cannot stand."""

import itertools
import unittest

from oldestbills.entries import is_account
from oldestbills.errors import InvalidAccount
from oldestbills.errors import InvalidManner
from oldestbills.errors import InvalidRough
from oldestbills.errors import InvalidWords
from oldestbills.roughs import is_rough
from oldestbills.words import read_account
from oldestbills.words import read_manner
from oldestbills.words import read_rough
from oldestbills.words import write_account
from oldestbills.words import write_manner
from oldestbills.words import write_rough
from tests.helpers import EXAMPLE
from tests.helpers import HUGE_DAY
from tests.helpers import HUGE_SUM
from tests.helpers import MANNERS
from tests.helpers import MIXED
from tests.helpers import Numbers
from tests.helpers import ODD_ACCOUNTS
from tests.helpers import ODD_MANNERS
from tests.helpers import any_account
from tests.samples import ODD_ROUGHS
from tests.samples import ROUGH
from tests.samples import any_rough

# Words that can stand somewhere in an account, and some that never can.
STORE = ("-", "bill", "pay", "for", "struck", "then", "0", "1", "x", "", "00", "-0", "struck\n")
ROUGH_STORE = ("-", "bill", "pay", "then", "to", "0", "1", "2", "struck", "")


def told_text(account):
    """[24]: the text of an account."""
    rows = []
    for entry in account:
        if entry[0] == "named":
            rows.append(["for", entry[3], entry[1], entry[2]])
        else:
            rows.append(entry)
    return " then ".join([" ".join(map(str, row)) for row in rows]) or "-"


def small_accounts(most):
    """All accounts with so many entries at the most, of the days 0 and 1, with sums of 1."""
    entries = [(word, day, 1) for word in ("bill", "pay") for day in (0, 1)] + [("struck",)]
    entries += [("named", day, 1, bill) for day in (0, 1) for bill in range(4)]
    for many in range(most + 1):
        for account in itertools.product(entries, repeat=many):
            if is_account(account):
                yield account


def small_roughs(most):
    """All rough accounts with so many entries at the most, of the days 0 to 2, with sums up to 2."""
    bounds = ((1, 1), (1, 2), (2, 2))
    entries = [(word, day, *pair) for word in ("bill", "pay") for day in (0, 1, 2) for pair in bounds]
    return [rough for many in range(most + 1) for rough in itertools.product(entries, repeat=many)]


def beginnings(texts):
    """All that texts begin with: tuples of words."""
    return {tuple(words[:many]) for words in (text.split(" ") for text in texts) for many in range(len(words) + 1)}


def place_of(read, text):
    """The place that a reader tells, None if it reads the text."""
    try:
        read(text)
    except InvalidWords as error:
        return error.place
    return None


class WriteTest(unittest.TestCase):
    def test_accounts(self):
        self.assertEqual(write_account(()), "-")
        self.assertEqual(write_account(MIXED), (
            "bill 1 6 then pay 2 4 then struck then for 4 5 3 then bill 1 7 then for 0 1 2 then bill 9 2"))
        self.assertEqual(write_account((("bill", -3, 1),)), "bill -3 1")
        self.assertEqual(write_account((("pay", -HUGE_DAY, 10 ** 39),)), f"pay -{HUGE_DAY} 1{'0' * 39}")
        for seed in range(40):
            account = any_account(seed, seed)
            self.assertEqual(write_account(account), told_text(account))

    def test_rough_accounts_and_manners(self):
        self.assertEqual(write_rough(()), "-")
        self.assertEqual(write_rough(ROUGH), "bill 1 5 to 10 then bill 2 5 to 10 then pay 3 6 to 8")
        self.assertEqual([write_manner(manner) for manner in MANNERS[:2]], ["days oldest", "days newest"])
        self.assertEqual(write_manner(("entered", "greatest")), "entered greatest")

    def test_wrong_arguments(self):
        for value in ODD_ACCOUNTS:
            self.assertRaises(InvalidAccount, write_account, value)
        for value in ODD_ROUGHS:
            if value != ():
                self.assertRaises(InvalidRough, write_rough, value)
        for value in ODD_MANNERS:
            self.assertRaises(InvalidManner, write_manner, value)

    def test_by_name(self):
        self.assertEqual((write_account(account=()), write_rough(rough=())), ("-", "-"))
        self.assertEqual(write_manner(manner=("days", "least")), "days least")
        self.assertEqual((read_account(words="-"), read_rough(words="-")), ((), ()))
        self.assertEqual(read_manner(words="days least"), ("days", "least"))


class ReadAccountTest(unittest.TestCase):
    def test_the_examples(self):
        self.assertEqual(place_of(read_account, "for 1 5 10 then bill 6 10"), 6)
        self.assertEqual(place_of(read_account, "for 1 5 10"), 4)
        self.assertEqual(place_of(read_account, "for 1 5 10 then"), 5)
        self.assertEqual(read_account("for 1 5 10 then bill 5 10"), (("named", 5, 10, 1), ("bill", 5, 10)))

    def test_what_is_written_is_read_back(self):
        self.assertEqual(read_account("-"), ())
        for account in (EXAMPLE, MIXED, (("struck",),) * 40, (("bill", -9999999, 10 ** 31 - 1), ("pay", 9999999, 1))):
            self.assertEqual(read_account(write_account(account)), account)
        for seed in range(60):
            account = any_account(seed, seed % 41, days=10 ** 7, most=HUGE_SUM)
            self.assertEqual(read_account(write_account(account)), account)
            turned = tuple([
                entry if entry[0] != "named" else ("named", 10 ** 6, entry[2], 39 - entry[3]) for entry in account[::-1]
            ])
            if len(account) == 40:
                self.assertEqual(read_account(write_account(turned)), turned)

    def test_spaces_and_empty_words(self):
        for text, place in (
            ("", 0), (" ", 0), ("  ", 0), (" -", 0), ("- ", 1), (" struck", 0), ("struck ", 1), ("struck  then struck", 1),
            ("bill  1 2", 1), ("bill 1  2", 2), ("bill 1 2 ", 3), ("struck then  struck", 2), ("\n", 0), ("struck\n", 0),
            ("bill 1 2\n", 2), ("bill\n1 2", 0), ("bill 1\n2", 1), ("\nstruck", 0), ("-\n", 0), ("struck\nthen struck", 0),
            ("Bill 1 2", 0), ("bill, 1 2", 0), ("struck then -", 2), ("- then struck", 1), ("struck struck", 1), ("- -", 1),
        ):
            self.assertEqual(place_of(read_account, text), place, text)

    def test_missing_words(self):
        for text in (
            "bill", "bill 1", "pay", "pay -1", "for", "for 1", "for 1 2", "for 1 2 3", "for 1 2 3 then", "struck then",
            "bill 1 2 then", "bill 1 2 then for 0", "for 2 1 1 then struck", "for 2 1 1 then struck then", "for 39 1 1",
            "for 2 1 1 then for 3 1 1 then bill 1 1",
        ):
            self.assertEqual(place_of(read_account, text), len(text.split(" ")), text)

    def test_integers(self):
        for word in ("-0", "00", "01", "-01", "+1", "--1", "-", "1.0", "1_0", "0x1", "1e3", "a", "", "-a", "1-", "99999990"):
            self.assertEqual(place_of(read_account, f"bill {word} 1"), 1, word)
            self.assertEqual(place_of(read_account, f"pay {word} 1"), 1, word)
            self.assertEqual(place_of(read_account, f"for 1 {word} 1"), 2, word)
        for word in ("0", "-1", "-5", "01", "+1", "1.0", "", "a", "1" + "0" * 31, "9" * 32, "9" * 3900, "-" + "9" * 31):
            self.assertEqual(place_of(read_account, f"bill 1 {word}"), 2, word)
            self.assertEqual(place_of(read_account, f"for 1 1 {word} then bill 1 1"), 3, word)
        for day in ("0", "-1", "9999999", "-9999999", "1000000", "-1000000"):
            self.assertEqual(read_account(f"bill {day} 1"), (("bill", int(day), 1),))
        for day in ("10000000", "-10000000", "9" * 40, "-" + "9" * 40, "1" * 3900):
            self.assertEqual(place_of(read_account, f"bill {day} 1"), 1)
        for much in ("1", "9" * 31, "1" + "0" * 30):
            self.assertEqual(read_account(f"pay -1 {much}"), (("pay", -1, int(much)),))

    def test_names(self):
        for word in ("0", "40", "41", "-1", "-0", "01", "x", "", "bill", "039", "9" * 40):
            self.assertEqual(place_of(read_account, f"for {word} 1 1"), 1, word)
        self.assertEqual(place_of(read_account, "struck then for 0 1 1"), 3)
        self.assertEqual(place_of(read_account, "pay 1 1 then for 0 1 1"), 5)
        self.assertEqual(place_of(read_account, "bill 1 1 then for 1 1 1"), 5)
        self.assertEqual(read_account("bill 1 1 then for 0 1 1"), (("bill", 1, 1), ("named", 1, 1, 0)))
        self.assertEqual(place_of(read_account, "bill 1 1 then for 0 0 1"), 6)
        self.assertEqual(place_of(read_account, "for 2 5 1 then for 2 3 1 then bill 4 1"), 11)
        self.assertEqual(place_of(read_account, "for 2 5 1 then for 2 3 1 then bill 3 1"), None)
        for word in ("pay", "for", "struck", "then", "-"):
            self.assertEqual(place_of(read_account, f"for 1 5 1 then {word} 1 1"), 5)
            self.assertEqual(place_of(read_account, f"for 2 5 1 then struck then {word} 1 1"), 7)

    def test_forty_entries(self):
        for entry in ("struck", "bill 1 1", "pay 1 1"):
            text = " then ".join([entry] * 40)
            many = len(text.split(" "))
            self.assertEqual(len(read_account(text)), 40)
            for more in (" then struck", " then", " struck", " "):
                self.assertEqual(place_of(read_account, text + more), many)
        head = " then ".join(["struck"] * 39) + " then "
        self.assertEqual(len(read_account(head + "pay 1 1")), 40)
        # The 40th entry cannot name one that comes behind it.
        self.assertEqual(place_of(read_account, head + "for 38 1 1"), 78)
        self.assertEqual(place_of(read_account, head + "for"), 78)
        head = "bill 5 1 then " + " then ".join(["struck"] * 38) + " then "
        self.assertEqual(len(read_account(head + "for 0 5 1")), 40)
        self.assertEqual(place_of(read_account, head + "for 0 4 1"), 82)
        self.assertEqual(place_of(read_account, head + "for 38 5 1"), 81)
        self.assertEqual(place_of(read_account, head + "for 39 5 1"), 81)
        self.assertEqual(place_of(read_account, head + "for 40 5 1"), 81)
        self.assertEqual(place_of(read_account, head[:-5] + "then for"), 81)
        head = " then ".join(["struck"] * 38) + " then "
        self.assertEqual(len(read_account(head + "for 39 5 1 then bill 5 1")), 40)
        self.assertEqual(place_of(read_account, head + "for 39 5 1 then bill 6 1"), 82)
        self.assertEqual(place_of(read_account, head + "for 39 5 1 then for 0 5 1"), 81)

    def test_each_word_behind_each_beginning_of_small_accounts(self):
        # A beginning that leads on is that of an account with one entry more, so those of four entries tell all of three.
        known = beginnings([told_text(account) for account in small_accounts(4)])
        texts = {told_text(account): account for account in small_accounts(3)}
        tried = 0
        for begin in beginnings(texts):
            for word in STORE:
                words = begin + (word,)
                text = " ".join(words)
                tried += 1
                if words not in known:
                    self.assertEqual(place_of(read_account, text), len(begin), text)
                    for more in (" then", " struck", "  "):
                        self.assertEqual(place_of(read_account, text + more), len(begin), text + more)
                elif text in texts:
                    self.assertEqual(read_account(text), texts[text])
                elif place_of(read_account, text) is None:
                    self.assertEqual(told_text(read_account(text)), text)
                else:
                    self.assertEqual(place_of(read_account, text), len(words), text)
        self.assertGreater(tried, 10000)

    def test_all_texts_of_few_words(self):
        known = beginnings([told_text(account) for account in small_accounts(4)])
        read = {told_text(account): account for account in small_accounts(2)}
        for many in range(1, 5):
            for words in itertools.product(STORE, repeat=many):
                text = " ".join(words)
                wrong = [k for k in range(many) if words[:k + 1] not in known]
                if text in read:
                    self.assertEqual(read_account(text), read[text])
                else:
                    self.assertEqual(place_of(read_account, text), wrong[0] if wrong else many, text)

    def test_one_word_that_is_another_one(self):
        numbers = Numbers(3)
        for seed in range(200):
            words = told_text(any_account(seed, 1 + seed % 12, most=3)).split(" ")
            at = numbers.below(len(words))
            for word in ("x", "", "-0", "9" * 40):
                text = " ".join(words[:at] + [word] + words[at + 1:])
                self.assertEqual(place_of(read_account, text), at, text)


class ReadRoughTest(unittest.TestCase):
    def test_what_is_written_is_read_back(self):
        for rough in ((), ROUGH, (("bill", -9999999, 1, 10 ** 31 - 1), ("pay", 9999999, 10 ** 31 - 1, 10 ** 31 - 1))):
            self.assertEqual(read_rough(write_rough(rough)), rough)
        for seed in range(40):
            rough = any_rough(seed, seed % 41, days=10 ** 6, most=HUGE_SUM, wide=HUGE_SUM)
            self.assertEqual(read_rough(write_rough(rough)), rough)
            self.assertTrue(is_rough(read_rough(write_rough(rough))))

    def test_places(self):
        for text, place in (
            ("", 0), ("-", None), ("- ", 1), ("bill 1 5 to 10", None), ("bill 1 5 to 4", 4), ("bill 1 5 to 5", None),
            ("bill 1 5 to", 4), ("bill 1 5", 3), ("bill 1", 2), ("bill", 1), ("bill 1 5 10", 3), ("for 0 1 5 to 10", 0),
            ("struck", 0), ("bill 1 5 to 10 then", 6), ("bill 1 5 to 10 bill", 5), ("bill 1 0 to 10", 2), ("bill 1 5 to -0", 4),
            ("bill -0 5 to 10", 1), ("bill 1 10 to 9", 4), ("bill 1 5 to 10 then pay 2 3 to 2", 10), ("bill 10000000 5 to 6", 1),
            ("pay 1 5 to " + "9" * 31, None), ("pay 1 5 to 1" + "0" * 31, 4), ("pay 1 " + "9" * 31 + " to " + "9" * 31, None),
            ("pay 1 1" + "0" * 31 + " to 5", 2), (" bill 1 5 to 10", 0), ("bill 1 5  to 10", 3), ("bill 1 5 to 10 then -", 6),
        ):
            self.assertEqual(place_of(read_rough, text), place, text)

    def test_forty_entries(self):
        text = " then ".join(["bill 1 5 to 10"] * 40)
        self.assertEqual(len(read_rough(text)), 40)
        self.assertEqual(place_of(read_rough, text + " then bill 1 5 to 10"), 239)
        self.assertEqual(place_of(read_rough, text + " then"), 239)

    def test_each_word_behind_each_beginning_of_small_ones(self):
        known = beginnings([write_rough(rough) for rough in small_roughs(3)])
        read = {write_rough(rough): rough for rough in small_roughs(2)}
        for begin in beginnings(read):
            for word in ROUGH_STORE:
                words = begin + (word,)
                text = " ".join(words)
                if words not in known:
                    self.assertEqual(place_of(read_rough, text), len(begin), text)
                elif text in read:
                    self.assertEqual(read_rough(text), read[text])
                else:
                    self.assertEqual(place_of(read_rough, text), len(words), text)


class ReadMannerTest(unittest.TestCase):
    def test_all_texts_of_few_words(self):
        read = {" ".join(manner): manner for manner in MANNERS}
        known = beginnings(read)
        store = ("days", "entered", "oldest", "newest", "greatest", "least", "", "-", "Days", "then")
        for many in range(1, 4):
            for words in itertools.product(store, repeat=many):
                text = " ".join(words)
                wrong = [k for k in range(many) if words[:k + 1] not in known]
                if text in read:
                    self.assertEqual(read_manner(text), read[text])
                else:
                    self.assertEqual(place_of(read_manner, text), wrong[0] if wrong else many, text)
        self.assertEqual(place_of(read_manner, "days oldest\n"), 1)


if __name__ == "__main__":
    unittest.main()
