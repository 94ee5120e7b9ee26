"""A console: a live board that is worked by commands."""

from holdtap.errors import InvalidCommand
from holdtap.live import Board
from holdtap.playing import played
from holdtap.records import order_of
from holdtap.slack import slack
from holdtap.texts import format_record, format_result, is_number, is_signed_number
from holdtap.texts import output_sign, output_text, parse_layout
from holdtap.timings import results, sure_outputs

DONE = "ok"
NOTHING = "none"
NOT_SURE = "?"


class Console:
    """A layout with a live board for it, at first none."""

    def __init__(self):
        self._layout = None
        self._board = None

    def execute(self, row):
        """Run a command; return its answer."""
        words = words_of(row)
        if words[0] == "layout":
            return self._begin(" ".join(words[1:]).replace(";", "\n"))
        if self._board is None:
            raise InvalidCommand("there is no layout yet")
        if words[0] in ANSWERS:
            answer = ANSWERS[words[0]]
            return answer(self._layout, self._board) or NOTHING
        if words[0] == "undo":
            self._board.undo()
            return DONE
        return outputs_text(self._call(words)) or NOTHING

    def _begin(self, text):
        """Take the layout with this text, with a new board."""
        layout = parse_layout(text)
        self._board = Board(layout)
        self._layout = layout
        return DONE

    def _call(self, words):
        """Call the board as the words say; return the outputs that come out."""
        if words[0] == "clock":
            return self._board.clock(int(words[1]))
        if words[0] == "down":
            return self._board.down(int(words[1]), int(words[2]))
        return self._board.up(int(words[1]), int(words[2]))


def record_answer(layout, board):
    """The text of the board's record."""
    return format_record(board.record)


def played_answer(layout, board):
    """The text of the record's result."""
    return format_result(played(layout, board.record))


def layers_answer(layout, board):
    """The layers that are on."""
    return " ".join([str(layer) for layer in board.layers])


def codes_answer(layout, board):
    """The codes that are down."""
    return " ".join(board.codes)


def waiting_answer(layout, board):
    """How many events wait."""
    return str(board.waiting)


def slack_answer(layout, board):
    """The slack of the record, an empty text without one."""
    ticks = slack(layout, board.record)
    return "" if ticks is None else str(ticks)


def results_answer(layout, board):
    """How many results the order of the record has."""
    return str(len(results(layout, order_of(board.record))))


def sure_answer(layout, board):
    """The sure outputs of the order of the record."""
    sure = sure_outputs(layout, order_of(board.record))
    return " ".join([NOT_SURE if output is None else output_text(output) for output in sure])


# The commands of one word that only tell something.
ANSWERS = {
    "record": record_answer,
    "played": played_answer,
    "layers": layers_answer,
    "codes": codes_answer,
    "waiting": waiting_answer,
    "slack": slack_answer,
    "results": results_answer,
    "sure": sure_answer,
}


def words_of(row):
    """The words of a command; raises InvalidCommand unless the value is one."""
    if not isinstance(row, str) or "\n" in row:
        raise InvalidCommand("not a string without newlines")
    words = row.split(" ")
    if "" in words or not is_command(words):
        raise InvalidCommand("there is no such command")
    return words


def is_command(words):
    """Whether the words, none of them empty, are a command."""
    if words[0] == "layout":
        return len(words) > 1
    if words[0] in ("down", "up"):
        return len(words) == 3 and is_number(words[1]) and is_signed_number(words[2])
    if words[0] == "clock":
        return len(words) == 2 and is_signed_number(words[1])
    return len(words) == 1 and (words[0] == "undo" or words[0] in ANSWERS)


def outputs_text(outputs):
    """The text of outputs with their ticks."""
    return " ".join([f"{tick}:{output_sign(word)}{code}" for tick, word, code in outputs])
