"""A console that keeps lines by names and answers commands, and its log."""

from anyrowline.choices import best_beat, fewest_stations
from anyrowline.errors import BadLine, BadSyntax, BadValue, RowError
from anyrowline.forms import (are_models, are_numbers, are_tasks, is_name, is_number, is_slips_word, may_be_numbers,
                              models_of, numbers_of, slips_of, tasks_of)
from anyrowline.lines import Line, free_line, with_slips
from anyrowline.moves import fewest_moves
from anyrowline.rates import rate
from anyrowline.safety import least_beat, safe
from anyrowline.texts import printed

# The kinds of the words behind the first one of each command.
FORMS = {
    "free": ("name", "slips", "tasks", "models"),
    "order": ("name", "number", "number"),
    "slips": ("name", "slips"),
    "safe": ("name", "numbers", "number", "number", "number"),
    "beat": ("name", "numbers", "numbers"),
    "best": ("name", "numbers"),
    "stations": ("name", "numbers", "number"),
    "moves": ("name", "numbers", "number", "numbers"),
    "rate": ("name", "numbers", "places", "numbers"),
    "show": ("name",),
}


def is_of_kind(kind, word):
    """Whether the word is of this kind."""
    if kind == "name":
        return is_name(word)
    if kind == "number":
        return is_number(word)
    if kind == "numbers":
        return are_numbers(word)
    if kind == "places":
        return may_be_numbers(word)
    if kind == "slips":
        return is_slips_word(word)
    return are_tasks(word) if kind == "tasks" else are_models(word)


def has_form(command):
    """Whether the command has one of the forms."""
    words = command.split(" ")
    if words[0] not in FORMS:
        return False
    kinds = FORMS[words[0]]
    if len(words) != len(kinds) + 1:
        return False
    return all([is_of_kind(kind, word) for kind, word in zip(kinds, words[1:])])


def with_pair(line, before, after):
    """The line with one more pair at the end of its order."""
    order = line.order + ((before, after),)
    return Line(line.tasks, order, line.models, line.states, line.start, slips=line.slips)


def number_word(value):
    """The word for a number or None."""
    return "none" if value is None else str(value)


def safe_answer(line, words):
    """What the console tells of `safe`."""
    word, told = safe(line, numbers_of(words[0]), int(words[1]), int(words[2]), int(words[3]))
    if word == "row":
        return f"overflows {len(told)}"
    return "safe" if word == "bounds" else "loops"


def rate_answer(line, words):
    """What the console tells of `rate`."""
    top, bottom = rate(line, numbers_of(words[0]), numbers_of(words[1]), numbers_of(words[2]))[0]
    return f"{top}/{bottom}"


def answer(line, word, words):
    """What a command with this first word, and these behind the name, tells of the line."""
    if word == "show":
        return printed(line)
    if word == "safe":
        return safe_answer(line, words)
    if word == "rate":
        return rate_answer(line, words)
    if word == "beat":
        return number_word(least_beat(line, numbers_of(words[0]), numbers_of(words[1]))[0])
    if word == "best":
        return number_word(best_beat(line, numbers_of(words[0]))[0])
    if word == "stations":
        return number_word(fewest_stations(line, numbers_of(words[0]), int(words[1]))[0])
    return number_word(fewest_moves(line, numbers_of(words[0]), int(words[1]), numbers_of(words[2]))[0])


class Console:
    """Keeps lines by names."""

    def __init__(self):
        self._lines = {}
        self._commands = []

    def run(self, command):
        """What the console answers to a command."""
        if not has_form(command):
            raise BadSyntax(0)
        self._commands.append(command)
        word, name, *words = command.split(" ")
        if word != "free" and name not in self._lines:
            return "error Unknown"
        try:
            return self._obeyed(word, name, words)
        except RowError as error:
            return "error " + type(error).__name__

    def _obeyed(self, word, name, words):
        """The answer to a command that changes the line of this name or tells of it."""
        if word == "free":
            self._lines[name] = free_line(tasks_of(words[1]), (), models_of(words[2]), slips=slips_of(words[0]))
        elif word == "order":
            self._lines[name] = with_pair(self._lines[name], int(words[0]), int(words[1]))
        elif word == "slips":
            self._lines[name] = with_slips(self._lines[name], slips_of(words[0]))
        else:
            return answer(self._lines[name], word, words)
        return "ok"

    def log(self):
        """The commands that were answered, each followed by a line feed."""
        return "".join([command + "\n" for command in self._commands])

    @staticmethod
    def replayed(log):
        """A Console that has run the commands of a log."""
        if not isinstance(log, str):
            raise BadValue(1)
        commands = log.split("\n")
        rest = commands.pop()
        for at, command in enumerate(commands):
            if not has_form(command):
                raise BadLine(at)
        if rest != "":
            raise BadLine(len(commands))
        console = Console()
        for command in commands:
            console.run(command)
        return console
