"""Rows and records as texts."""


def row_text(row):
    return " ".join([str(word) for word in row_words(row)])


def record_text(record):
    rule, rows = record
    return "\n".join([f"record {rule}"] + [row_text(row) for row in rows])


def row_words(row):
    """The words of a row, numbers as they are."""
    if row[0] == "order":
        return list(row[:5]) + [fill_text(fill) for fill in row[5]]
    if row[0] == "prints":
        return ["prints"] + [fill_text(fill) for fill in row[1]]
    if row[0] == "call":
        return ["call", text_or_none(row[1])] + [f"{size}@{n}" for n, size in row[2]]
    return list(row)


def fill_text(fill):
    price, size, n = fill
    return f"{price}*{size}@{text_or_none(n)}"


def text_or_none(number):
    return "-" if number is None else str(number)
