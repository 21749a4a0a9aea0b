"""Rows and records as texts."""

from fairshown.places import row_fills


def row_text(row):
    return " ".join([str(word) for word in row_words(row)])


def record_text(record):
    rule, rows = record
    lines = [row_text(row) for row in rows]
    return "\n".join([f"record {rule}", *lines])


def row_words(row):
    """The words of a row, numbers as they are."""
    fills = [fill_text(fill) for fill in row_fills(row)]
    if row[0] == "order":
        return [*row[:5], *fills]
    if row[0] == "prints":
        return ["prints", *fills]
    if row[0] == "call":
        pairs = [f"{size}@{n}" for n, size in row[2]]
        return ["call", text_or_none(row[1]), *pairs]
    return list(row)


def fill_text(fill):
    price, size, n = fill
    return f"{price}*{size}@{text_or_none(n)}"


def text_or_none(number):
    return "-" if number is None else str(number)
