"""Whether a paper shows that a record is explained, or that it is not."""

from fairshown.bars import is_bar
from fairshown.daychecker import lets_day
from fairshown.days import record_of
from fairshown.errors import InvalidPaper


def lets_explained(record, thing):
    """True for a day whose record it is, False for a bar of it; InvalidPaper for anything else."""
    if not is_form(thing):
        raise InvalidPaper("form", -1)
    word, what = thing
    if word == "bar":
        if not is_bar(record, what):
            raise InvalidPaper("bar", -1)
        return False
    lets_day(what)
    check_record(record, record_of(what))
    return True


def verdict(record, thing):
    """What lets_explained returns of any value, None if it does not accept it."""
    try:
        return lets_explained(record, thing)
    except InvalidPaper:
        return None


def is_form(thing):
    return isinstance(thing, tuple) and len(thing) == 2 and (thing[0] == "day" or thing[0] == "bar")


def check_record(record, told):
    """InvalidPaper unless the record of a day, which is told, is this one."""
    if told[0] != record[0]:
        raise InvalidPaper("by", -1)
    for t, (row, other) in enumerate(zip(record[1], told[1])):
        if row != other:
            raise InvalidPaper("row", t)
    if len(record[1]) != len(told[1]):
        raise InvalidPaper("row", min(len(record[1]), len(told[1])))
