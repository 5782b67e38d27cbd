"""Items as texts: words that are separated by single spaces."""

from onecut.errors import BadText
from onecut.kinds import LAST_DAY, MOST_AMOUNTS, check_item, is_amount

# Integers that are read have at most so many digits.
MOST_DIGITS = 100
DIGITS = "0123456789"


def ratio_text(ratio):
    """The text of a ratio."""
    top, under = ratio
    return str(top) if under == 1 else f"{top}/{under}"


def item_text(item):
    """The text of an item."""
    check_item(item)
    kind, first, many, last = item
    words = [ratio_text(ratio) for ratio in last] if kind == "entry" else [str(last)]
    return " ".join([kind, str(first), str(many)] + words)


def word_at(words, at):
    """The word at the index, or an empty one, which is wrong everywhere, if there are not so many words."""
    return words[at] if at < len(words) else ""


def read_natural(word):
    """The integer from 0 on that the word is the text of, or None."""
    if not 1 <= len(word) <= MOST_DIGITS or not all([sign in DIGITS for sign in word]):
        return None
    if word[0] == "0" and len(word) > 1:
        return None
    return int(word)


def _read_integer(word):
    """The integer that the word is the text of, or None."""
    if not word.startswith("-"):
        return read_natural(word)
    number = read_natural(word[1:])
    # There is no negative zero.
    return -number if number else None


def _read_amount(word):
    """The ratio that an entry may give and that the word is the text of, or None."""
    over, slash, below = word.partition("/")
    top = _read_integer(over)
    under = read_natural(below) if slash else 1
    # An under of 1 is not written.
    if (slash and under == 1) or not is_amount((top, under)):
        return None
    return (top, under)


def wrong_in_stretch(words, at):
    """The index of the first wrong word if FIRST and MANY of a stretch should stand from the index on, or None.

    As everywhere here, a word that is missing is wrong; its index is then the number of words.
    """
    first = read_natural(word_at(words, at))
    if first is None or first >= LAST_DAY:
        return at
    many = read_natural(word_at(words, at + 1))
    if many is None or not 1 <= many <= LAST_DAY - first:
        return at + 1
    return None


def wrong_in_item(words, at):
    """The index of the first wrong word if the words from the index on should be the text of an item, or None."""
    kind = word_at(words, at)
    if kind not in ("entry", "statement"):
        return at
    wrong = wrong_in_stretch(words, at + 1)
    if wrong is not None:
        return wrong
    most = MOST_AMOUNTS if kind == "entry" else 1
    read = _read_amount if kind == "entry" else _read_integer
    start = at + 3
    for place in range(start, start + most):
        if place == len(words) > start:
            return None
        if read(word_at(words, place)) is None:
            return place
    return start + most if len(words) > start + most else None


def item_from(words, at):
    """The item whose text the words from the index on are."""
    kind, first, many, *last = words[at:]
    if kind == "entry":
        return (kind, int(first), int(many), tuple([_read_amount(word) for word in last]))
    return (kind, int(first), int(many), int(last[0]))


def read_item(text):
    """The item whose text the argument is."""
    if not isinstance(text, str):
        raise BadText(0)
    words = text.split(" ")
    wrong = wrong_in_item(words, 0)
    if wrong is not None:
        raise BadText(wrong)
    return item_from(words, 0)
