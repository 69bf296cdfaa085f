"""Words: accounts, rough accounts and manners as texts."""

from oldestbills.checks import CHOICES
from oldestbills.checks import SEQUENCES
from oldestbills.checks import check_account
from oldestbills.checks import check_manner
from oldestbills.checks import check_rough
from oldestbills.entries import naming
from oldestbills.errors import InvalidWords
from oldestbills.readers import GREATEST_DAY
from oldestbills.readers import GREATEST_SUM
from oldestbills.readers import LEAST_DAY
from oldestbills.readers import Reader

# More entries are not read.
MOST_ENTRIES = 40


def write_account(account):
    """The text of an account."""
    check_account(account)
    return joined_texts([entry_text(entry) for entry in account])


def joined_texts(texts):
    """The text of entries from theirs."""
    return " then ".join(texts) if len(texts) > 0 else "-"


def entry_text(entry):
    """The text of an entry."""
    if entry[0] == "struck":
        return "struck"
    if entry[0] == "named":
        return f"for {entry[3]} {entry[1]} {entry[2]}"
    return f"{entry[0]} {entry[1]} {entry[2]}"


def write_rough(rough):
    """The text of a rough account."""
    check_rough(rough)
    return joined_texts([f"{word} {day} {least} to {greatest}" for word, day, least, greatest in rough])


def write_manner(manner):
    """The two words of a manner."""
    check_manner(manner)
    return f"{manner[0]} {manner[1]}"


def read_account(words):
    """The account that has this text."""
    reader = Reader(words)
    entries = []
    while goes_on(reader, len(entries)):
        entries.append(read_entry(reader, entries))
    if any([entry[0] == "named" and entry[3] >= len(entries) for entry in entries]):
        raise InvalidWords(reader.at)
    return tuple(entries)


def goes_on(reader, many):
    """Whether an entry comes behind so many; takes the words ahead of it, or the one that stands for none."""
    if many == 0 and reader.is_next("-"):
        reader.take()
        reader.take_end()
        return False
    if many > 0 and not reader.is_done():
        reader.take_one_of(("then",) if many < MOST_ENTRIES else ())
        return True
    return many == 0


def read_entry(reader, entries):
    """Takes the words of the entry behind these."""
    word = reader.take_one_of(first_words(entries))
    if word == "struck":
        return ("struck",)
    if word == "for":
        return read_named(reader, entries)
    # A payment that came ahead of its bill is not older than it.
    days = [payment[1] for payment in naming(entries, len(entries))]
    day = reader.take_integer(LEAST_DAY, min([GREATEST_DAY] + days))
    return (word, day, reader.take_sum())


def first_words(entries):
    """The words with which the entry behind these can begin."""
    if len(naming(entries, len(entries))) > 0:
        return ["bill"]
    return ["bill", "pay", "struck"] + (["for"] if len(nameable(entries)) > 0 else [])


def nameable(entries):
    """The indexes that a payment behind these entries can name: bills, and entries that may still come."""
    bills = [index for index in range(len(entries)) if entries[index][0] == "bill"]
    return bills + list(range(len(entries) + 1, MOST_ENTRIES))


def read_named(reader, entries):
    """Takes the words of a payment behind these entries, from the index of its bill on."""
    bill = int(reader.take_one_of([str(index) for index in nameable(entries)]))
    day = reader.take_integer(entries[bill][1] if bill < len(entries) else LEAST_DAY, GREATEST_DAY)
    return ("named", day, reader.take_sum(), bill)


def read_rough(words):
    """The rough account that has this text."""
    reader = Reader(words)
    entries = []
    while goes_on(reader, len(entries)):
        entries.append(read_rough_entry(reader))
    return tuple(entries)


def read_rough_entry(reader):
    """Takes the words of an entry of a rough account."""
    word = reader.take_one_of(("bill", "pay"))
    day = reader.take_day()
    least = reader.take_sum()
    reader.take_one_of(("to",))
    return (word, day, least, reader.take_integer(least, GREATEST_SUM))


def read_manner(words):
    """The manner that has this text."""
    reader = Reader(words)
    sequence = reader.take_one_of(SEQUENCES)
    choice = reader.take_one_of(CHOICES)
    reader.take_end()
    return (sequence, choice)
