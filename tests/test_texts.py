"""Points 49 and 50, and guarantee 13: printed and parse."""

import re
import unittest

from anyrowline import texts
from anyrowline.console import Console
from anyrowline.errors import (BadModel, BadPair, BadState, BadSyntax, BadTask, BadValue, RowError, TooMany)
from anyrowline.lines import Line, free_line
from anyrowline.texts import parse, printed
from trials import HUGE, ODD_VALUES, SMALL, Trial, deep, random_line, some

TEXT = """line slips 1 start 0
task 4 4
task 2 5
task 3 3
order 0 1
model 0 1 2
model 0 2
state 0:1
state 1:0
"""
NUMBER = "(0|[1-9][0-9]{0,8})"
FIRST = re.compile(f"line slips (-|{NUMBER}) start {NUMBER}")
FORMS = {"task": re.compile(f"task {NUMBER} {NUMBER}"), "order": re.compile(f"order {NUMBER} {NUMBER}"),
         "model": re.compile(f"model( {NUMBER})*"), "state": re.compile(f"state( {NUMBER}:{NUMBER})*")}


def wrong_line(text):
    """The number of the first line of the text that does not fit; None if all do. Point 50, in another way."""
    *lines, rest = text.split("\n")
    kinds = list(FORMS)
    seen = []
    for at, row in enumerate(lines):
        if at == 0:
            if not FIRST.fullmatch(row):
                return 0
            continue
        fitting = [kind for kind in kinds if FORMS[kind].fullmatch(row)]
        if not fitting or any(kinds.index(kind) > kinds.index(fitting[0]) for kind in seen):
            return at
        seen.append(fitting[0])
    if rest or not {"task", "model", "state"} <= set(seen):
        return len(lines)
    return None


class Texts(Trial):
    def assert_syntax(self, at, text):
        self.assertEqual(wrong_line(text), at)
        with self.assertRaises(RowError) as caught:
            parse(text)
        self.assertIs(type(caught.exception), BadSyntax)
        self.assertIs(type(caught.exception.at), int)
        self.assertEqual(caught.exception.at, at)

    def assert_error(self, error, told, text):
        self.assertIsNone(wrong_line(text))
        with self.assertRaises(RowError) as caught:
            parse(text)
        self.assertIs(type(caught.exception), error)
        self.assertEqual(caught.exception.word if error is TooMany else caught.exception.at, told)

    def assert_both_ways(self, line, text):
        self.assertEqual(printed(line), text)
        found = parse(text)
        self.assertIs(type(found), Line)
        self.assertEqual(found, line)
        self.assertEqual(printed(found), text)
        for value in (found.tasks, found.order, found.models, found.states, found.start, found.slips):
            self.assert_plain(value)


class Printed(Texts):
    def test_the_overview(self):
        self.assert_both_ways(SMALL, TEXT)

    def test_all_that_may_be_empty(self):
        self.assert_both_ways(Line(((0, 0),), (), ((),), (((0, 0),),), 0),
                              "line slips 0 start 0\ntask 0 0\nmodel\nstate 0:0\n")

    def test_slips_and_start(self):
        states = (((0, 0),), ((0, 1),), ((0, 0),))
        for slips, word in ((None, "-"), (0, "0"), (8, "8")):
            for start in range(3):
                self.assert_both_ways(Line(((1, 2),), (), ((0,),), states, start, slips=slips),
                                      f"line slips {word} start {start}\ntask 1 2\nmodel 0\n"
                                      "state 0:0\nstate 0:1\nstate 0:0\n")

    def test_several_of_each_kind(self):
        line = Line(((0, 10000), (12, 345), (7, 7)), ((2, 0), (1, 0)), ((), (1,), (0, 1, 2), ()),
                    (((3, 1), (0, 1), (2, 0)), ((1, 1),)), 1, slips=None)
        self.assert_both_ways(line, "line slips - start 1\ntask 0 10000\ntask 12 345\ntask 7 7\norder 2 0\norder 1 0\n"
                                    "model\nmodel 1\nmodel 0 1 2\nmodel\nstate 3:1 0:1 2:0\nstate 1:1\n")

    def test_lists_in_the_line_are_printed_alike(self):
        line = Line([[4, 4], [2, 5], [3, 3]], [[0, 1]], [[0, 1, 2], [0, 2]], [[[0, 1]], [[1, 0]]], 0, slips=1)
        self.assert_both_ways(line, TEXT)

    def test_some_lines(self):
        chosen = some(120)
        for _ in range(300):
            line = random_line(chosen, tasks=7, states=6, high=10000 - 4)
            text = printed(line)
            self.assertEqual(parse(text), line)
            self.assertEqual(printed(parse(text)), text)
            self.assertIsNone(wrong_line(text))
            self.assertTrue(text.endswith("\n") and not text.endswith("\n\n"))

    def test_a_greatest_line(self):
        chosen = some(121)
        pairs = [(first, second) for first in range(24) for second in range(first + 1, 24)][:200]
        arcs = [(model, to) for model in range(8) for to in range(60)]
        line = Line([(chosen.randint(0, 9999), 10000) for _ in range(24)], pairs, [tuple(range(24))] * 8,
                    [chosen.sample(arcs, 40) for _ in range(60)], 59, slips=8)
        text = printed(line)
        self.assertEqual(text.count("\n"), 1 + 24 + 200 + 8 + 60)
        self.assertEqual(parse(text), line)
        self.assertEqual(printed(parse(text)), text)

    def test_nothing_but_a_line(self):
        for value in (*[value for value in ODD_VALUES if value is not SMALL], TEXT, HUGE, deep(40), (SMALL,), [SMALL],
                      Console(), (0,) * 50000):
            self.assert_bad(1, printed, value)
        self.assertEqual(printed(value=SMALL), TEXT)


class Syntax(Texts):
    def rows(self):
        return TEXT.split("\n")[:-1]

    def replaced(self, at, row):
        rows = self.rows()
        rows[at] = row
        return "".join(row + "\n" for row in rows)

    def test_each_line_with_other_blanks(self):
        for at, row in enumerate(self.rows()):
            for other in (" " + row, row + " ", row.replace(" ", "  ", 1), row.replace(" ", "\t", 1), row + "\t",
                          "\t" + row, row.replace(" ", "", 1), row + "\r", row + "\x0b", row + "\x0c", row + "\x1c",
                          row.replace(" ", "\u00a0"), row + "\u2028", row.replace(" ", "\r"), row.upper(),
                          row.capitalize(), row[1:], row + "x", "x" + row, "", " ", "\t", row + ",", row + "\x85"):
                self.assert_syntax(at, self.replaced(at, other))

    def test_numbers(self):
        for at, row in enumerate(self.rows()):
            places = [place for place, letter in enumerate(row) if letter.isdigit()]
            for place in places:
                for word in ("00", "01", "007", "+1", "-1", "1.0", "1e3", "0x1", "1_0", "1234567890", "0000000001",
                             "\u0661", "\u00b2", "\uff11", "1\u0661", "", "-", "--", "a", "O", "l", "1,", "1:", "1/2",
                             "None", " ", "99999999999"):
                    text = self.replaced(at, row[:place] + word + row[place + 1:])
                    if wrong_line(text) is None:
                        self.assertEqual((at, word), (0, "-"))
                        self.assertIsNone(parse(text).slips)
                    else:
                        self.assert_syntax(at, text)

    def test_nine_digits_are_a_number(self):
        self.assert_error(BadValue, 6, TEXT.replace("slips 1", "slips 999999999"))
        self.assert_error(BadValue, 5, TEXT.replace("start 0", "start 999999999"))
        self.assert_error(BadTask, 1, TEXT.replace("2 5", "2 123456789"))
        self.assert_error(BadPair, 0, TEXT.replace("order 0 1", "order 0 100000000"))
        self.assert_error(BadModel, 1, TEXT.replace("model 0 2", "model 0 100000000"))
        self.assert_error(BadState, 1, TEXT.replace("1:0", "1:999999999"))
        self.assert_error(BadState, 1, TEXT.replace("1:0", "999999999:0"))
        for old, new in (("slips 1", "slips 1000000000"), ("start 0", "start 1000000000")):
            self.assert_syntax(0, TEXT.replace(old, new))
        for at, old, new in ((2, "2 5", "2 1234567890"), (4, "0 1\nm", "0 1000000000\nm"), (6, "0 2\ns", "0 1000000000\ns"),
                             (8, "1:0", "1:1000000000"), (8, "1:0", "1000000000:0")):
            self.assert_syntax(at, TEXT.replace(old, new))

    def test_numbers_of_words(self):
        for at, row in ((0, "line slips 1 start"), (0, "line slips 1"), (0, "line"), (0, "line slips 1 start 0 0"),
                        (0, "line start 0 slips 1"), (0, "line slips 1 begin 0"), (0, "lines slips 1 start 0"),
                        (0, "line slip 1 start 0"), (0, "line slips - start -"), (0, "line slips -1 start 0"),
                        (1, "task"), (1, "task 4"), (1, "task 4 4 4"), (1, "task 4/4"), (1, "tasks 4 4"), (4, "order"),
                        (4, "order 0"), (4, "order 0 1 2"), (4, "order 0:1"), (4, "orders 0 1"), (5, "model 0,1,2"),
                        (5, "models 0"), (5, "model -"), (7, "state 0"), (7, "state 0:"), (7, "state :1"),
                        (7, "state 0:1:2"), (7, "state 0:1 1"), (7, "state :"), (7, "state 0 : 1"), (7, "state 0/1"),
                        (7, "state -"), (7, "states 0:1"), (7, "state 0:1,1:0"), (1, "4 4"), (5, "0 1 2")):
            self.assert_syntax(at, self.replaced(at, row))

    def test_model_and_state_alone_are_of_the_form(self):
        self.assertEqual(parse(self.replaced(5, "model")).models, ((), (0, 2)))
        self.assert_error(BadState, 0, self.replaced(7, "state"))
        self.assert_error(BadState, 1, self.replaced(8, "state"))

    def test_lines_out_of_their_place(self):
        rows = self.rows()
        for first in range(len(rows)):
            for second in range(len(rows)):
                other = rows[:first] + rows[first + 1:]
                other.insert(second, rows[first])
                text = "".join(row + "\n" for row in other)
                at = wrong_line(text)
                if at is not None:
                    self.assert_syntax(at, text)
                else:
                    parse(text)
        self.assert_syntax(1, rows[0] + "\n" + TEXT)
        self.assert_syntax(9, TEXT + rows[0] + "\n")
        self.assert_syntax(9, TEXT + "task 1 1\n")
        self.assert_syntax(9, TEXT + "order 1 2\n")
        self.assert_syntax(9, TEXT + "model\n")
        self.assert_syntax(7, self.replaced(6, "state 0:0\nmodel"))
        self.assert_syntax(5, self.replaced(4, "model 0\norder 0 1"))
        self.assert_syntax(2, self.replaced(1, "order 0 1\ntask 4 4"))
        self.assert_syntax(2, self.replaced(1, "state 0:0\ntask 4 4"))

    def test_the_first_line_that_is_wrong_counts(self):
        for first in range(9):
            for second in range(first, 9):
                rows = self.rows()
                rows[first] = rows[second] = "wrong"
                self.assert_syntax(first, "".join(row + "\n" for row in rows))
                self.assert_syntax(first, "\n".join(rows))
        self.assert_syntax(3, self.replaced(3, "task 3 3\nline slips 1 start 0").replace("task 3 3", "task 3"))

    def test_kinds_that_are_missing(self):
        rows = self.rows()
        for missing in ("task", "model", "state"):
            some_rows = [row for row in rows if not row.startswith(missing)]
            self.assert_syntax(len(some_rows), "".join(row + "\n" for row in some_rows))
            self.assert_syntax(len(some_rows) - 1, "\n".join(some_rows))
            self.assert_syntax(2, "".join(row + "\n" for row in some_rows[:2] + ["wrong"] + some_rows[3:]))
        for many in range(9):
            text = "".join(row + "\n" for row in rows[:many])
            if many < 8:
                self.assert_syntax(many, text)
            else:
                self.assert_error(BadState, 0, text)
        self.assertEqual(parse(TEXT.replace("order 0 1\n", "")).order, ())

    def test_without_a_last_line_feed(self):
        self.assert_syntax(8, TEXT[:-1])
        self.assert_syntax(9, TEXT + " ")
        self.assert_syntax(9, TEXT + "\n")
        self.assert_syntax(9, TEXT + "state 0:0")
        self.assert_syntax(9, TEXT + "wrong")
        self.assert_syntax(9, TEXT + "\n\n")
        self.assertEqual(len(parse(TEXT + "state 0:0\n").states), 3)
        for many in range(len(TEXT)):
            at = TEXT[:many].count("\n")
            # Of the two states the last one alone may be left out.
            if many != TEXT.index("state 1:0"):
                self.assert_syntax(at, TEXT[:many])

    def test_the_empty_text(self):
        self.assert_syntax(0, "")
        self.assert_syntax(0, "\n")
        self.assert_syntax(0, " ")
        self.assert_syntax(0, "\n" + TEXT)
        self.assert_syntax(0, "\n" * 20000)
        self.assert_syntax(0, "a" * 20000)
        self.assert_syntax(0, "line slips 0 start 0")
        self.assert_syntax(1, "line slips 0 start 0\n")

    def test_other_line_ends(self):
        self.assert_syntax(0, TEXT.replace("\n", "\r\n"))
        self.assert_syntax(0, TEXT.replace("\n", "\r"))
        self.assert_syntax(0, TEXT.replace("\n", ";"))
        self.assert_syntax(0, TEXT.replace("\n", "\u2028"))
        self.assert_syntax(8, TEXT[:-1] + "\r\n")

    def test_one_letter_is_changed(self):
        chosen = some(122)
        found = {True: 0, False: 0}
        for _ in range(4000):
            at = chosen.randrange(len(TEXT))
            text = TEXT[:at] + chosen.choice(("", " ", "\n", "0", "1", "9", ":", "-", "a", "state", "model", "\t"))
            text += TEXT[at + chosen.randint(0, 1):]
            wrong = wrong_line(text)
            found[wrong is None] += 1
            if wrong is not None:
                self.assert_syntax(wrong, text)
                continue
            try:
                self.assertEqual(printed(parse(text)), text)
            except RowError as error:
                self.assertNotIn(type(error), (BadSyntax,))
        self.assertGreater(min(found.values()), 100)


class LineErrors(Texts):
    def test_each_error_of_line(self):
        for error, told, old, new in (
                (BadTask, 0, "task 4 4", "task 5 4"), (BadTask, 2, "task 3 3", "task 3 10001"),
                (BadPair, 0, "order 0 1", "order 1 1"), (BadPair, 1, "order 0 1", "order 0 1\norder 0 1"),
                (BadPair, 1, "order 0 1", "order 0 1\norder 1 0"), (BadPair, 0, "order 0 1", "order 0 3"),
                (BadModel, 0, "model 0 1 2", "model 0 2 1"), (BadModel, 1, "model 0 2", "model 0 0"),
                (BadModel, 1, "model 0 2", "model 3"), (BadState, 0, "state 0:1", "state 0:2"),
                (BadState, 0, "state 0:1", "state 2:1"), (BadState, 1, "state 1:0", "state 1:0 1:0"),
                (BadValue, 5, "start 0", "start 2"), (BadValue, 6, "slips 1", "slips 9"),
                (TooMany, "tasks", "task 3 3", "\n".join(["task 3 3"] * 23)),
                (TooMany, "pairs", "order 0 1", "\n".join(["order 0 1"] * 201)),
                (TooMany, "models", "model 0 2", "\n".join(["model 0 2"] * 8)),
                (TooMany, "states", "state 1:0", "\n".join(["state 1:0"] * 60))):
            self.assert_error(error, told, TEXT.replace(old, new))

    def test_more_than_40_arcs(self):
        text = "line slips 0 start 0\ntask 1 1\n" + "model\n" * 8
        arcs = [f"{model}:{to}" for model in range(8) for to in range(6)]
        self.assertEqual(len(parse(text + ("state " + " ".join(arcs[:40]) + "\n") * 6).states), 6)
        self.assert_error(BadState, 0, text + ("state " + " ".join(arcs[:41]) + "\n") * 6)

    def test_the_order_of_errors(self):
        changes = [("task 4 4", "task 5 4", BadTask), ("order 0 1", "order 1 1", BadPair),
                   ("model 0 2", "model 2 0", BadModel), ("1:0", "2:0", BadState), ("start 0", "start 2", BadValue),
                   ("slips 1", "slips 9", BadValue)]
        for first in range(len(changes)):
            text = TEXT
            for old, new, _ in changes[first:]:
                text = text.replace(old, new)
            with self.assertRaises(RowError) as caught:
                parse(text)
            self.assertIs(type(caught.exception), changes[first][2])
            self.assertEqual(getattr(caught.exception, "at"), {0: 0, 1: 0, 2: 1, 3: 1, 4: 5, 5: 6}[first])
            self.assert_syntax(9, text + "wrong")

    def test_as_line_raises_them(self):
        chosen = some(123)
        for _ in range(300):
            tasks = [(chosen.randint(0, 3), chosen.randint(2, 4)) for _ in range(3)]
            order = [(chosen.randint(0, 2), chosen.randint(0, 3)) for _ in range(chosen.randint(0, 2))]
            models = [tuple(chosen.randint(0, 3) for _ in range(chosen.randint(0, 2))) for _ in range(2)]
            states = [[(chosen.randint(0, 2), chosen.randint(0, 2)) for _ in range(chosen.randint(0, 2))]
                      for _ in range(2)]
            start, slips = chosen.randint(0, 2), chosen.choice((0, 8, 9, None))
            text = f"line slips {'-' if slips is None else slips} start {start}\n"
            text += "".join("task {} {}\n".format(*task) for task in tasks)
            text += "".join("order {} {}\n".format(*pair) for pair in order)
            text += "".join(" ".join(["model", *map(str, model)]) + "\n" for model in models)
            text += "".join(" ".join(["state", *(f"{model}:{to}" for model, to in state)]) + "\n" for state in states)
            told = []
            for made in (lambda: Line(tasks, order, models, states, start, slips=slips), lambda: parse(text)):
                try:
                    told.append(printed(made()))
                except RowError as error:
                    told.append((type(error), vars(error)))
            self.assertEqual(told[0], told[1])


class Errors(Texts):
    def test_values_that_are_no_strings(self):
        for value in (*[value for value in ODD_VALUES if type(value) is not str], (TEXT,), [TEXT], HUGE, deep(40),
                      Console(), (0,) * 50000):
            self.assert_bad(1, parse, value)
        self.assertEqual(parse(text=TEXT), SMALL)

    def test_strings(self):
        for value in ODD_VALUES:
            if type(value) is str:
                self.assert_syntax(0, value)

    def test_they_stand_in_their_file(self):
        self.assertEqual(texts.printed.__module__, "anyrowline.texts")
        self.assertEqual(texts.parse.__module__, "anyrowline.texts")

    def test_free_lines(self):
        line = free_line(((1, 2), (3, 4)), (), ((0,), (1,), ()), slips=None)
        self.assertEqual(printed(line), "line slips - start 0\ntask 1 2\ntask 3 4\nmodel 0\nmodel 1\nmodel\n"
                                        "state 0:0 1:0 2:0\n")


if __name__ == "__main__":
    unittest.main()
