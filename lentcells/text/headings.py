"""Reading the texts of functions and situations."""

from lentcells.text.reading import DIGITS, read_block, read_claim_in


def read_told_array(reader, has_was):
    """A parameter or a loan; a full parameter has a was name."""
    way = "full" if reader.sees("f") else "look"
    reader.skip(f"{way} ")
    array = reader.word()
    reader.skip(":")
    told = (way, array, reader.word())
    if way == "look" or not has_was:
        return told
    reader.skip(" was ")
    return (*told, reader.word())


def read_heading(reader, has_was):
    """A tuple of arrays, positions and values."""
    arrays = reader.listed(lambda: read_told_array(reader, has_was), False)
    reader.skip(" | ")
    positions = reader.listed(lambda: reader.word(), False)
    reader.skip(" | ")
    return arrays, positions, reader.listed(lambda: reader.word(), False)


def read_claims(reader):
    """Claims that stand beside one another."""
    return reader.listed(lambda: read_claim_in(reader), True, " & ")


def read_notes(reader):
    """The claims of all notes."""
    return () if reader.sees(")") else reader.joined(lambda: read_claims(reader), "; ")


def read_parts(reader):
    """The name of a function and the dict of all else that makes it."""
    called = reader.word()
    reader.skip("(")
    arrays, positions, amounts = read_heading(reader, True)
    reader.skip(") with (")
    loans, places, numbers = read_heading(reader, False)
    reader.skip(") before (")
    before = read_claims(reader)
    reader.skip(") after (")
    after = read_claims(reader)
    reader.skip(") notes (")
    notes = read_notes(reader)
    reader.skip(") ")
    rows = read_block(reader, 0)
    return called, {
        "arrays": arrays, "positions": positions, "values": amounts, "loans": loans, "places": places,
        "numbers": numbers, "rows": rows, "notes": notes, "before": before, "after": after,
    }


def read_cells(reader):
    """The row of an array."""
    if reader.sees("-") and not reader.sees(DIGITS[1:], 1):
        reader.skip("-")
        return ()
    found = [reader.integer()]
    while reader.sees(" ") and reader.sees(DIGITS + "-", 1):
        reader.skip(" ")
        found.append(reader.integer())
    return tuple(found)


def read_named(reader, words, read_one):
    """The dict from these words to what stands behind them."""
    if len(words) == 0:
        reader.skip("-")
    found = {}
    for at, word in enumerate(words):
        reader.skip(f"{word}=" if at == 0 else f" {word}=")
        found[word] = read_one()
    return found


def read_places(reader, frame):
    """The rows of the arrays of a frame, and the numbers of its positions and values."""
    rows = read_named(reader, [array for array, length in frame.arrays], lambda: read_cells(reader))
    reader.skip(" | ")
    positions = read_named(reader, frame.positions, lambda: reader.integer())
    reader.skip(" | ")
    return rows, positions, read_named(reader, frame.amounts, lambda: reader.integer())
