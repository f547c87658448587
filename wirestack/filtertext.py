"""Filter texts: filters as lines of text with names for places, and as bytes."""

from wirestack.errors import FilterError, OctetError
from wirestack.filters import PARTS, REGISTERS, SIGNS, SIZES, TESTS, check_rows
from wirestack.octets import Reader, natural_bytes, sum_bytes

DIGITS = "0123456789"
NAME_SIGNS = "abcdefghijklmnopqrstuvwxyz0123456789"
MOST_NAME = 10
MOST_DIGITS = 10
JUMPS = ("need", "if", "jump")


def filter_text(rows):
    """Return a filter's text: a line for each row, "name:" ahead of rows that others jump to."""
    check_rows(rows)
    places = sorted(set([row[-1] for row in rows if row[0] in JUMPS]))
    names = {place: f"p{number}" for number, place in enumerate(places)}
    lines = []
    for number, row in enumerate(rows):
        if number in names:
            lines.append(f"{names[number]}:\n")
        lines.append(f"{row_text(row, names)}\n")
    return "".join(lines)


def row_text(row, names):
    """Return the line of a row, by the names of places."""
    word = row[0]
    if word == "op":
        return f"r{row[2]} {row[1]} r{row[3]}"
    if word == "if":
        return f"if r{row[2]} {row[1]} r{row[3]} then {names[row[4]]}"
    if word == "need":
        return f"need {row[1]} else {names[row[2]]}"
    if word == "jump":
        return f"jump {names[row[1]]}"
    return " ".join([word] + [part_text(kind, part) for kind, part in zip(PARTS[word], row[1:])])


def part_text(kind, part):
    """Return the word of a register, a cell or a number."""
    if kind == "r":
        return f"r{part}"
    return f"c{part}" if kind == "cell" else str(part)


def parse_filter(text):
    """Return the rows of a text; raise FilterError "no text" with the line's number, from 0 on."""
    lines = text.split("\n")
    places = places_in(lines)
    names = []
    found = []
    for number, line in enumerate(lines[:-1]):
        if line.endswith(":"):
            name = line[:-1]
            if not is_name(name) or name in names:
                raise FilterError("no text", number)
            names.append(name)
        elif line != "":
            found.append(parse_row(line.split(" "), places, number))
    if lines[-1] != "":
        raise FilterError("no text", len(lines) - 1)
    check_rows(tuple(found))
    return tuple(found)


def is_name(name):
    """Return True for a name of a place: 1 to 10 small letters and digits."""
    return 0 < len(name) <= MOST_NAME and all(sign in NAME_SIGNS for sign in name)


def places_in(lines):
    """Return a table of the names in lines to the numbers of the rows behind them."""
    found = {}
    many = 0
    for line in lines:
        if line.endswith(":"):
            found[line[:-1]] = many
        elif line != "":
            many += 1
    return found


def parse_row(words, places, number):
    """Return the row of a line's words, by the places of names; raise FilterError for words that form none."""
    row = in_order(words)
    kinds = PARTS.get(row[0], ())
    if row[0] not in SIZES or len(row) != SIZES[row[0]]:
        raise FilterError("no text", number)
    parts = [part_of(kind, word, places) for kind, word in zip(kinds, row[1:])]
    if None in parts:
        raise FilterError("no text", number)
    return (row[0],) + tuple(parts)


def in_order(words):
    """Return a line's words in the order of a row, as one word that is none if they stand in another form."""
    if len(words) == 3 and words[1] in SIGNS:
        return ["op", words[1], words[0], words[2]]
    if words[0] == "if" and len(words) == 6 and words[4] == "then":
        return ["if", words[2], words[1], words[3], words[5]]
    if words[0] == "need" and len(words) == 4 and words[2] == "else":
        return ["need", words[1], words[3]]
    return [""] if words[0] in ("op", "if", "need") else words


def part_of(kind, word, places):
    """Return what a word tells as a part of a kind, None for a word that tells none."""
    if kind == "sign":
        return word
    if kind == "test":
        return word if word in TESTS else None
    if kind == "place":
        return places.get(word)
    if kind == "r":
        return index_of("r", word)
    return index_of("c", word) if kind == "cell" else number_in(word)


def index_of(letter, word):
    """Return the number of a register or a cell, None for a word that names none."""
    number = number_in(word[1:])
    return number if word[:1] == letter and number is not None and number < REGISTERS else None


def number_in(word):
    """Return the number of one to ten digits without a needless 0, None for another word."""
    if not 0 < len(word) <= MOST_DIGITS or any(sign not in DIGITS for sign in word):
        return None
    return None if len(word) > 1 and word[0] == "0" else int(word)


def filter_bytes(rows):
    """Return a filter's bytes: the number of rows, each row's word and parts as numbers, and a checksum."""
    check_rows(rows)
    words = sorted(SIZES)
    data = natural_bytes(len(rows))
    for row in rows:
        data = data + natural_bytes(words.index(row[0]))
        for kind, part in zip(PARTS[row[0]], row[1:]):
            data = data + natural_bytes(part_number(kind, part))
    return data + sum_bytes(data)


def part_number(kind, part):
    """Return the number of a part of a row: a sign's is its place."""
    if kind == "sign":
        return SIGNS.index(part)
    return TESTS.index(part) if kind == "test" else part


def read_filter(data):
    """Return the rows of bytes; raise FilterError "no bytes" for others, or what is wrong with the rows."""
    if len(data) < 4 or sum_bytes(data[:-4]) != data[-4:]:
        raise FilterError("no bytes")
    reader = Reader(data[:-4])
    try:
        found = [read_row(reader) for _ in range(reader.natural())]
    except OctetError:
        raise FilterError("no bytes")
    if not reader.at_end():
        raise FilterError("no bytes")
    check_rows(tuple(found))
    return tuple(found)


def read_row(reader):
    """Return the row at a reader's place; raise FilterError for a word or a sign that is not there."""
    words = sorted(SIZES)
    place = reader.natural()
    if place >= len(words):
        raise FilterError("no bytes")
    word = words[place]
    return (word,) + tuple([told_part(kind, reader.natural()) for kind in PARTS[word]])


def told_part(kind, number):
    """Return the part of a row that a number tells; raise FilterError for a sign that is not there."""
    if kind not in ("sign", "test"):
        return number
    signs = SIGNS if kind == "sign" else TESTS
    if number >= len(signs):
        raise FilterError("no bytes")
    return signs[number]
