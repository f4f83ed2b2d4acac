"""Sheets: a bond and a start whose fillings have words, and the text of these."""

from setitback.anyvalue import is_row
from setitback.bonds import check_bond
from setitback.errors import BadBond, BadText, Refused
from setitback.forms import MOST_FILLINGS
from setitback.lots import is_pair_of, partners_of

LETTERS = "abcdefghijklmnopqrstuvwxyz"
FIGURES = "0123456789"
MOST_SIGNS = 12


def is_name(value):
    """Whether any value is a word that a filling can have."""
    if not isinstance(value, str) or not 1 <= len(value) <= MOST_SIGNS or value[0] not in LETTERS:
        return False
    return all([sign in LETTERS or sign in FIGURES for sign in value])


def are_names(values):
    """Whether the values of a sequence are words that fillings can have, no two of them alike."""
    return all([is_name(value) for value in values]) and len(set(values)) == len(values)


def sheet_with(value):
    """Any value as a sheet, of tuples; None if it is none."""
    if not is_row(value, 4):
        return None
    try:
        bond = check_bond(value[0])
    except BadBond:
        return None
    start, rows, columns = value[1:]
    if not is_pair_of(bond, start) or not is_row(rows, bond[0]) or not is_row(columns, bond[1]):
        return None
    rows, columns = tuple(rows), tuple(columns)
    return (bond, tuple(start), rows, columns) if are_names(rows + columns) else None


def check_sheet(value):
    """Any value as a sheet, of tuples; Refused if it is none."""
    sheet = sheet_with(value)
    if sheet is None:
        raise Refused(value)
    return sheet


def line_of_words(words):
    """The words of a line, with a blank between them."""
    return " ".join(words)


def write_sheet(sheet):
    """The text of a sheet."""
    bond, start, rows, columns = check_sheet(sheet)
    lines = [line_of_words(["one", *rows]), line_of_words(["other", *columns])]
    for s, word in enumerate(rows):
        lines.append(line_of_words(["fits", word, *[columns[t] for t in partners_of(bond, 0, (s,))]]))
    lines.append(line_of_words(["start", rows[start[0]], columns[start[1]]]))
    return "\n".join(lines)


def words_at(lines, at, word):
    """The words behind the first one of a line, which must be this word; BadText otherwise."""
    if at >= len(lines):
        raise BadText(len(lines) + 1)
    first, *words = lines[at].split(" ")
    if first != word:
        raise BadText(at + 1)
    return words


def names_at(lines, at, word, others):
    """The words of a line that names a side's fillings, unlike one another and the other side's."""
    names = words_at(lines, at, word)
    if not 1 <= len(names) <= MOST_FILLINGS or not are_names(others + names):
        raise BadText(at + 1)
    return names


def pairs_at(lines, at, rows, columns):
    """The pairs of the filling of side 0 whose line this is."""
    words = words_at(lines, at, "fits")
    s = at - 2
    if len(words) < 2 or words[0] != rows[s] or not all([word in columns for word in words[1:]]):
        raise BadText(at + 1)
    lot = [columns.index(word) for word in words[1:]]
    if not all([lot[place - 1] < lot[place] for place in range(1, len(lot))]):
        raise BadText(at + 1)
    return [(s, t) for t in lot]


def start_at(lines, at, rows, columns, pairs):
    """The start that a line tells."""
    words = words_at(lines, at, "start")
    if len(words) != 2 or words[0] not in rows or words[1] not in columns:
        raise BadText(at + 1)
    start = rows.index(words[0]), columns.index(words[1])
    if start not in pairs:
        raise BadText(at + 1)
    return start


def read_sheet(text):
    """The sheet that has this text; BadText with the first line, from 1 on, that cannot stand behind those ahead."""
    if not isinstance(text, str):
        raise BadText(0)
    lines = text.split("\n")
    rows = names_at(lines, 0, "one", [])
    columns = names_at(lines, 1, "other", rows)
    pairs = []
    for at in range(2, 2 + len(rows)):
        pairs = pairs + pairs_at(lines, at, rows, columns)
    if len({t for _, t in pairs}) < len(columns):
        # Until the last of these lines the rest could still be fitted; with this one it cannot.
        raise BadText(2 + len(rows))
    start = start_at(lines, 2 + len(rows), rows, columns, pairs)
    if len(lines) > 3 + len(rows):
        raise BadText(4 + len(rows))
    return (len(rows), len(columns), tuple(pairs)), start, tuple(rows), tuple(columns)
