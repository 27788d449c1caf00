"""A journal: RECORDS in lines that show whether they are whole, wherever their text is cut."""

from wellstrewn.errors import Wrong

MODULUS = 1000000007


def is_record(thing):
    """Whether any value is a RECORD."""
    return isinstance(thing, str) and thing != "" and all([" " <= sign <= "~" for sign in thing])


def sum_behind(ahead, record):
    """The SUM behind a RECORD, ahead being the SUM ahead of it."""
    total = ahead
    for sign in record:
        total = (total * 97 + ord(sign) - ord(" ") + 1) % MODULUS
    return total


def journal_lines(records):
    """The list of the LINES of RECORDS, without line feeds."""
    lines = []
    total = 0
    for i, record in enumerate(records):
        total = sum_behind(total, record)
        lines.append(f"{i} {total} {record}")
    return lines


def journal_of(records):
    """The JOURNAL of RECORDS."""
    return "".join([line + "\n" for line in journal_lines(records)])


def opened(text):
    """The tuple of the RECORDS of the longest JOURNAL with which a text begins."""
    if not isinstance(text, str):
        raise Wrong(0)
    records = []
    total = 0
    # What stands behind the last line feed is no whole LINE.
    for i, line in enumerate(text.split("\n")[:-1]):
        index, _, rest = line.partition(" ")
        shown, _, record = rest.partition(" ")
        if not is_record(record):
            break
        total = sum_behind(total, record)
        if index != str(i) or shown != str(total):
            break
        records.append(record)
    return tuple(records)


def with_record(text, record):
    """The JOURNAL of the RECORDS of the longest JOURNAL with which a text begins, and of one more."""
    if not isinstance(text, str):
        raise Wrong(0)
    if not is_record(record):
        raise Wrong(1)
    return journal_of([*opened(text), record])
