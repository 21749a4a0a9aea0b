"""Rows and records that texts write."""

from fairshown.errors import InvalidText
from fairshown.kinds import is_name, is_rule, is_side

DIGITS = "0123456789"
MOST_DIGITS = 60
# How many words a row has at least.
LEAST_WORDS = {"order": 5, "cancel": 2, "prints": 1, "closed": 1, "call": 2}


def row_read(text, *, line=0, field=0):
    words = text.split(" ")
    fault = row_fault(words)
    if fault is not None:
        raise InvalidText(line, field + fault)
    return row_of(words)


def record_read(text):
    lines = text.split("\n")
    words = lines[0].split(" ")
    fault = head_fault(words)
    if fault is not None:
        raise InvalidText(0, fault)
    return words[1], tuple([row_read(lines[k], line=k) for k in range(1, len(lines))])


def head_fault(words):
    """The index of the first word that cannot stand in the first line, or their number if one is missing, or None."""
    if words[0] != "record":
        return 0
    if len(words) < 2 or not is_rule(words[1]):
        return 1
    return None if len(words) == 2 else 2


def row_fault(words):
    """The index of the first word that cannot stand in a row, or their number if one is missing, or None."""
    for at in range(len(words)):
        if not can_stand_at(words, at):
            return at
    return None if len(words) >= LEAST_WORDS[words[0]] else len(words)


def can_stand_at(words, at):
    """Whether a word can stand behind those before it, which can."""
    if at == 0:
        return words[0] in LEAST_WORDS
    if words[0] == "order":
        return can_stand_in_order(words[at], at)
    if words[0] == "cancel":
        return at == 1 and is_number_text(words[at])
    if words[0] == "call":
        return can_stand_in_call(words, at)
    return words[0] == "prints" and is_fill_text(words[at])


def can_stand_in_order(word, at):
    if at == 1:
        return is_name(word)
    if at == 2:
        return is_side(word)
    return is_price_text(word) if at < 5 else is_fill_text(word)


def can_stand_in_call(words, at):
    if at == 1:
        return words[1] == "-" or is_price_text(words[1])
    if words[1] == "-" or not is_pair_text(words[at]):
        return False
    return at == 2 or pair_of(words[at - 1])[0] < pair_of(words[at])[0]


def is_number_text(word):
    """Digits alone, not too many, without a leading zero."""
    if word == "" or len(word) > MOST_DIGITS or not all([sign in DIGITS for sign in word]):
        return False
    return word == "0" or word[0] != "0"


def is_price_text(word):
    """A number from 1 on, a price or a size."""
    return is_number_text(word) and word != "0"


def is_fill_text(word):
    parts = word.split("*")
    if len(parts) != 2 or not is_price_text(parts[0]):
        return False
    pair = parts[1].split("@")
    return len(pair) == 2 and is_price_text(pair[0]) and (pair[1] == "-" or is_number_text(pair[1]))


def is_pair_text(word):
    pair = word.split("@")
    return len(pair) == 2 and is_price_text(pair[0]) and is_number_text(pair[1])


def row_of(words):
    """The row that words write, all of which can stand."""
    if words[0] == "order":
        member, side, price, size = words[1:5]
        return "order", member, side, int(price), int(size), tuple([fill_of(word) for word in words[5:]])
    if words[0] == "cancel":
        return "cancel", int(words[1])
    if words[0] == "prints":
        return "prints", tuple([fill_of(word) for word in words[1:]])
    if words[0] == "call":
        return "call", number_or_none(words[1]), tuple([pair_of(word) for word in words[2:]])
    return ("closed",)


def fill_of(word):
    price, pair = word.split("*")
    size, n = pair.split("@")
    return int(price), int(size), number_or_none(n)


def pair_of(word):
    size, n = word.split("@")
    return int(n), int(size)


def number_or_none(word):
    return None if word == "-" else int(word)
