"""Lines printed as texts, and parsed from them."""

from anyrowline.errors import BadSyntax, BadValue
from anyrowline.forms import is_number, is_pair_word, is_slips_word, pair_of, slips_of, slips_word
from anyrowline.lines import Line

# The kinds of the lines of a text behind its first one, in their order.
KINDS = ("task", "order", "model", "state")
# Of these there must be at least one.
NEEDED = ("task", "model", "state")


def printed(value):
    """The text of a Line."""
    if not isinstance(value, Line):
        raise BadValue(1)
    rows = [f"line slips {slips_word(value.slips)} start {value.start}"]
    rows.extend([f"task {usual} {upper}" for usual, upper in value.tasks])
    rows.extend([f"order {before} {after}" for before, after in value.order])
    rows.extend([" ".join(["model"] + [str(task) for task in model]) for model in value.models])
    rows.extend([" ".join(["state"] + [f"{model}:{to}" for model, to in state]) for state in value.states])
    return "".join([row + "\n" for row in rows])


def parse(text):
    """The Line of a text."""
    if not isinstance(text, str):
        raise BadValue(1)
    lines = [row.split(" ") for row in text.split("\n")]
    rest = lines.pop()
    parts = parts_of(lines)
    if rest != [""] or not all([parts[kind] for kind in NEEDED]):
        raise BadSyntax(len(lines))
    tasks = [numbers_in(words) for words in parts["task"]]
    order = [numbers_in(words) for words in parts["order"]]
    models = [numbers_in(words) for words in parts["model"]]
    states = [[pair_of(word, ":") for word in words] for words in parts["state"]]
    return Line(tasks, order, models, states, int(lines[0][4]), slips=slips_of(lines[0][2]))


def parts_of(lines):
    """By kinds the words, behind the first one, of the lines of this kind; each line is a list of its words."""
    parts = {kind: [] for kind in KINDS}
    last = 0
    for at, words in enumerate(lines):
        if at == 0:
            if not is_first(words):
                raise BadSyntax(at)
            continue
        kind = words[0]
        if kind not in KINDS[last:] or not may_follow(kind, words[1:]):
            raise BadSyntax(at)
        last = KINDS.index(kind)
        parts[kind].append(words[1:])
    return parts


def is_first(words):
    """Whether these are the words of a first line."""
    if len(words) != 5 or [words[0], words[1], words[3]] != ["line", "slips", "start"]:
        return False
    return is_slips_word(words[2]) and is_number(words[4])


def may_follow(kind, words):
    """Whether these words may stand behind the word of this kind."""
    if kind == "state":
        return all([is_pair_word(word, ":") for word in words])
    if kind != "model" and len(words) != 2:
        return False
    return all([is_number(word) for word in words])


def numbers_in(words):
    """The numbers that these words are."""
    return tuple([int(word) for word in words])
