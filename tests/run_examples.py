"""Runs examples as the document writes them: rows behind >>>, each with what it returns or raises."""

from holdtap.errors import HoldError


def blocks_of(text):
    """The blocks of a text that begin with >>>, each a list of tuples (source, what is told of it)."""
    blocks, inside = [], False
    for row in text.split("\n"):
        if row.startswith(">>> "):
            if not inside:
                blocks.append([])
            blocks[-1].append((row[4:], []))
        elif inside and row and row != "```":
            blocks[-1][-1][1].append(row)
        inside = row != "" and row != "```" and (inside or row.startswith(">>> "))
    return blocks


def outcome(source, names):
    """What a row gives, as the document writes it; an empty text for a statement."""
    try:
        try:
            code = compile(source, "example", "eval")
        except SyntaxError:
            exec(source, names)
            return ""
        return repr(eval(code, names))
    except HoldError as error:
        fields = ", ".join(f"{name}={value!r}" for name, value in vars(error).items())
        return f"raises {error.__class__.__name__}" + (f"({fields})" if fields else "")


def check_block(test, block, names):
    """Run a block and compare each row's outcome."""
    for source, told in block:
        with test.subTest(source=source):
            test.assertEqual(outcome(source, names), "\n".join(told))
