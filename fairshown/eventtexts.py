"""Events and logs of an audit as lines."""

from fairshown.recordtexts import row_text


def event_line(event):
    word, what = event
    text = row_text(what) if word == "row" else what
    return f"{word} {text}"


def log_lines(log):
    return [beginning_line(log[0])] + [event_line(event) for event in log[1:]]


def beginning_line(beginning):
    word, rule, members = beginning
    names = ",".join(members) if members else "-"
    return f"{word} {rule} {names}"
