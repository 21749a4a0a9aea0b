"""A paper that shows whether a record is explained."""

from fairshown.bars import first_bar
from fairshown.explaining import day_for


def explain_paper(record):
    bar = first_bar(record)
    return ("day", day_for(record)) if bar is None else ("bar", bar)
