"""Outputs: what an event gives, and what counts as one."""

from holdtap.layouts import is_code

OUTPUT_WORDS = ("press", "release")


def is_output(value):
    """Whether any value is an output: (), or a word with a code."""
    if not isinstance(value, tuple) or len(value) not in (0, 2):
        return False
    if len(value) == 0:
        return True
    word, code = value
    return isinstance(word, str) and word in OUTPUT_WORDS and is_code(code)


def are_outputs(value):
    """Whether any value is a list of outputs."""
    return isinstance(value, list) and all([is_output(output) for output in value])


def outputs_alone(result):
    """The outputs of a result without the events that have none."""
    return [output for output in result if output != ()]
