"""Rows and parts written as texts, and texts read as parts."""

from farjump.errors import NoText
from farjump.rows import FORMS, is_row
from farjump.words import is_word

MOST_FIGURES = 60


def joined_by_blanks(things):
    return " ".join([str(thing) for thing in things])


def show_row(row):
    if row[0] == "mark":
        return row[1] + ("::" if row[2] else ":")
    words = []
    for one in row:
        if isinstance(one, list):
            words.extend(one)
        else:
            words.append(one)
    return joined_by_blanks(words)


def show_parts(parts):
    lines = []
    for name, rows in parts:
        lines.append(f"part {name}")
        lines.extend([show_row(row) for row in rows])
    return "\n".join(lines)


# None where the text is no number that is written as numbers are.
def read_number(text):
    figures = text[1:] if text.startswith("-") else text
    if not 1 <= len(figures) <= MOST_FIGURES:
        return None
    # Not isdigit: it lets by figures other than 0 to 9.
    if not all(["0" <= sign <= "9" for sign in figures]):
        return None
    if figures.startswith("0") and text != "0":
        return None
    return int(text)


def row_in(line):
    # What comes of a line that is none is no row either, and is sifted out by who asks.
    if line.endswith("::"):
        return ("mark", line[:-2], True)
    if line.endswith(":"):
        return ("mark", line[:-1], False)
    words = line.split(" ")
    kind = words[0]
    told = words[1:]
    if kind == "numbers":
        return (kind, [read_number(word) for word in told])
    if kind == "table":
        return (kind, told)
    forms = FORMS.get(kind, ())
    if len(told) != len(forms):
        return None
    return (kind,) + tuple([word if form == "word" else read_number(word) for form, word in zip(forms, told)])


def read_row(line):
    row = row_in(line)
    return row if is_row(row) else None


def read_name(line):
    words = line.split(" ")
    if len(words) == 2 and words[0] == "part" and is_word(words[1]):
        return words[1]
    return None


def lacks_rows(parts):
    return len(parts) > 0 and len(parts[-1][1]) == 0


def read_parts(text):
    if not isinstance(text, str):
        raise NoText(0)
    lines = text.split("\n")
    parts = []
    for number, line in enumerate(lines):
        name = read_name(line)
        row = read_row(line)
        if name is not None and not lacks_rows(parts):
            parts.append((name, []))
        elif row is not None and len(parts) > 0:
            parts[-1][1].append(row)
        else:
            raise NoText(number)
    if lacks_rows(parts):
        raise NoText(len(lines))
    return parts
