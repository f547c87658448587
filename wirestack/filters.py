"""Filters: small programs that look at a packet's bytes and say whether it goes on.

Rows are ("set", r, n), ("move", r, s), ("op", sign, r, s) (r becomes r sign s), ("size", r), ("need", n, place),
("load", r, place, many), ("at", r, s, many) (bytes from the place in register s on), ("if", sign, r, s, place),
("jump", place), ("get", r, cell), ("put", cell, r), ("accept",) and ("drop",). There are registers 0 to 7 and cells 0
to 7, which keep their numbers from packet to packet.
"""

from wirestack.errors import FilterError
from wirestack.octets import fixed_number

SIGNS = ("+", "-", "*", "and", "or", "xor", "shift")
TESTS = ("==", "!=", "<", "<=")
SIZES = {"set": 3, "move": 3, "op": 4, "size": 2, "need": 3, "load": 4, "at": 4, "if": 5, "jump": 2, "get": 3,
         "put": 3, "accept": 1, "drop": 1}
BASE = 2 ** 32
MOST_ROWS = 64
REGISTERS = 8
WIDTHS = (1, 2, 4)
# What stands behind a row's word: a register, a cell, a number, a row's place, a width, a sign or a test.
PARTS = {"set": ("r", "n"), "move": ("r", "r"), "op": ("sign", "r", "r"), "size": ("r",), "need": ("n", "place"),
         "load": ("r", "n", "width"), "at": ("r", "r", "width"), "if": ("test", "r", "r", "place"),
         "jump": ("place",), "get": ("r", "cell"), "put": ("cell", "r"), "accept": (), "drop": ()}


def reckoned(sign, one, other):
    """Return one number by another one, by the base; a shift is to the right, by the remainder by 32."""
    if sign == "+":
        return (one + other) % BASE
    if sign == "-":
        return (one - other) % BASE
    if sign == "*":
        return one * other % BASE
    if sign == "and":
        return one & other
    if sign == "or":
        return one | other
    if sign == "xor":
        return one ^ other
    return one >> other % 32


def holds(sign, one, other):
    """Return True if a comparison of two numbers holds."""
    if sign == "==":
        return one == other
    if sign == "!=":
        return one != other
    return one < other if sign == "<" else one <= other


def check_rows(rows):
    """Raise FilterError for rows that are no filter: 1 to 64 of them, jumps to later rows alone."""
    if not isinstance(rows, tuple) or not 0 < len(rows) <= MOST_ROWS:
        raise FilterError("no rows")
    for number, row in enumerate(rows):
        if not is_row(row):
            raise FilterError("no row", number)
        if row[0] in ("need", "if", "jump") and not number < row[-1] < len(rows):
            raise FilterError("jump", number)


def is_row(row):
    """Return True for a row of a known word with the parts that belong to it."""
    if not isinstance(row, tuple) or row == () or not isinstance(row[0], str) or row[0] not in SIZES:
        return False
    if len(row) != SIZES[row[0]]:
        return False
    return all([is_part(kind, part) for kind, part in zip(PARTS[row[0]], row[1:])])


def is_part(kind, part):
    """Return True for a part of a row that is of a kind."""
    if kind in ("sign", "test"):
        return isinstance(part, str) and part in (SIGNS if kind == "sign" else TESTS)
    if isinstance(part, bool) or not isinstance(part, int):
        return False
    if kind == "width":
        return part in WIDTHS
    if kind == "n":
        return 0 <= part < BASE
    # Whether a place is a later row is asked apart, as it is another error.
    return kind == "place" or 0 <= part < REGISTERS


class Run:
    """A filter's run over a packet's bytes: the registers, None for those that are not set, the cells, and the row."""

    def __init__(self, data, cells):
        self.data = data
        self.cells = cells
        self.registers = [None] * REGISTERS
        self.number = 0

    def number_in(self, index):
        """Return the number in a register; raise FilterError if it is not set."""
        if self.registers[index] is None:
            raise FilterError("unset", self.number)
        return self.registers[index]

    def bytes_at(self, place, many):
        """Return the number of so many bytes; raise FilterError if they are not there."""
        if place + many > len(self.data):
            raise FilterError("outside", self.number)
        return fixed_number(self.data[place:place + many])

    def step(self, row):
        """Carry out a row that says nothing yet, and go on to the next one."""
        word = row[0]
        if word in ("if", "need", "jump"):
            self.number = row[-1] if self.jumps(row) else self.number + 1
            return
        if word == "set":
            self.registers[row[1]] = row[2]
        elif word == "load":
            self.registers[row[1]] = self.bytes_at(row[2], row[3])
        elif word == "put":
            self.cells[row[1]] = self.number_in(row[2])
        elif word == "op":
            self.registers[row[2]] = reckoned(row[1], self.number_in(row[2]), self.number_in(row[3]))
        else:
            self.registers[row[1]] = self.worth(row)
        self.number += 1

    def jumps(self, row):
        """Return True if a row leads to the row that it names."""
        if row[0] == "if":
            one, other = self.registers[row[2]], self.registers[row[3]]
            if one is None or other is None:
                raise FilterError("unset", self.number)
            return holds(row[1], one, other)
        if row[0] == "need":
            return len(self.data) < row[1]
        return True

    def worth(self, row):
        """Return the number that a row puts into its first register."""
        word = row[0]
        if word == "move":
            return self.number_in(row[2])
        if word == "size":
            return len(self.data)
        if word == "at":
            return self.bytes_at(self.number_in(row[2]), row[3])
        return self.cells[row[2]]


def run_filter(rows, data, cells):
    """Return ("accept" or "drop", the steps) of a filter over a packet's bytes; the cells, a list, may change."""
    check_rows(rows)
    return run_rows(rows, data, cells)


def run_rows(rows, data, cells):
    """Return what run_filter returns, of rows that are known to be a filter."""
    run = Run(data, cells)
    steps = 0
    while run.number < len(rows):
        row = rows[run.number]
        steps += 1
        if row[0] in ("accept", "drop"):
            return (row[0], steps)
        run.step(row)
    raise FilterError("no end", len(rows))
