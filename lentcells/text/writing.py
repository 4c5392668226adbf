"""Texts of what has the form of claims and rows, and of functions."""


def more_text(number):
    """The text of a number behind a name or cell: nothing for 0."""
    if number == 0:
        return ""
    return f"+{number}" if number > 0 else str(number)


def short_text(term):
    """The text of a pair of a name, or none, and a number."""
    word, number = term
    return str(number) if word == "" else word + more_text(number)


def amount_text(term):
    """The text of a value term."""
    if len(term) == 2:
        return short_text(term)
    return f"{term[0]}[{short_text(term[1:3])}]{more_text(term[3])}"


def claim_text(claim):
    """The text of a claim."""
    word = claim[0]
    if word == "pos":
        return f"[{short_text(claim[2])} {claim[1]} {short_text(claim[3])}]"
    if word == "val":
        return f"{amount_text(claim[2])} {claim[1]} {amount_text(claim[3])}"
    if word == "not":
        return f"not({claim_text(claim[1])})"
    if word in ("and", "or"):
        parts = ", ".join([claim_text(part) for part in claim[1]])
        return f"{word}({parts})"
    own = ", ".join(claim[1])
    return f"all {own} ({claim_text(claim[2])} -> {claim_text(claim[3])})"


def list_text(texts):
    """The texts of the members of a list."""
    return ", ".join(texts) if len(texts) > 0 else "-"


def rows_text(rows):
    """The text of rows by themselves."""
    return "; ".join([row_text(row) for row in rows])


def block_text(rows):
    """The text of rows in braces."""
    return "{ " + rows_text(rows) + " }" if len(rows) > 0 else "{ }"


def row_text(row):
    """The text of a row."""
    word = row[0]
    if word == "move":
        return f"{row[1]} := {short_text(row[2])}"
    if word == "keep":
        return f"{row[1]} = {amount_text(row[2])}"
    if word == "write":
        return f"{row[1]}[{short_text(row[2:4])}] = {amount_text(row[4])}"
    if word == "lend":
        return f"lend {row[1]} = {row[2]}"
    if word == "call":
        return f"call {row[1]}({given_text(row)})"
    told = f"{word} {claim_text(row[1])} {block_text(row[2])}"
    return told if word == "while" else f"{told} else {block_text(row[3])}"


def given_text(row):
    """The text of what a call hands over."""
    positions = [short_text(term) for term in row[3]]
    amounts = [amount_text(term) for term in row[4]]
    return f"{list_text(row[2])} | {list_text(positions)} | {list_text(amounts)}"


def array_text(told):
    """The text of a parameter or loan."""
    text = f"{told[0]} {told[1]}:{told[2]}"
    return f"{text} was {told[3]}" if len(told) > 3 else text


def heading_text(arrays, positions, amounts):
    """The text of parameters, or of loans and local names."""
    return f"{list_text([array_text(told) for told in arrays])} | {list_text(positions)} | {list_text(amounts)}"


def claims_text(claims):
    """The text of claims that stand beside one another."""
    return " & ".join([claim_text(claim) for claim in claims]) if len(claims) > 0 else "-"


def function_text(function):
    """The text of a function."""
    parameters = heading_text(function.arrays, function.positions, function.amounts)
    own = heading_text(function.loans, function.places, function.numbers)
    notes = "; ".join([claims_text(claims) for claims in function.notes])
    contract = f"before ({claims_text(function.before)}) after ({claims_text(function.after)})"
    return f"{function.called}({parameters}) with ({own}) {contract} notes ({notes}) {block_text(function.rows)}"
