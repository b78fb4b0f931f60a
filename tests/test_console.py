"""Points 51 to 53, and guarantee 13: Console."""

import unittest

from anyrowline import console
from anyrowline.choices import best_beat, fewest_stations
from anyrowline.console import Console
from anyrowline.errors import BadLine, BadSyntax, RowError
from anyrowline.lines import Line, free_line, with_slips
from anyrowline.moves import fewest_moves
from anyrowline.rates import rate
from anyrowline.safety import least_beat, safe
from anyrowline.texts import parse, printed
from trials import HUGE, ODD_VALUES, SMALL, Trial, deep, some

FREE = "free a 1 4/4;2/5;3/3 0,1,2;0,2"
LINE = free_line(((4, 4), (2, 5), (3, 3)), (), ((0, 1, 2), (0, 2)), slips=1)
# A command of each form.
COMMANDS = (FREE, "order a 0 1", "slips a 2", "safe a 0,0,1 0 4 6", "beat a 0,0,1 4,0", "best a 0,0",
            "stations a 0,0,0 7", "moves a 0,0 7 0,0,0", "rate a 0,0,1 0 0,1", "show a")
ONLY_LISTS = ("beat a WORD 4,0", "beat a 0,0,1 WORD", "best a WORD", "stations a WORD 7", "moves a WORD 7 0,0,0",
              "moves a 0,0 7 WORD", "rate a WORD 0 0,1", "rate a 0,0,1 0 WORD", "safe a WORD 0 4 6")
ONLY_NUMBERS = ("order a WORD 1", "order a 0 WORD", "safe a 0,0,1 WORD 4 6", "safe a 0,0,1 0 WORD 6",
                "safe a 0,0,1 0 4 WORD", "stations a 0,0 WORD", "moves a 0,0 WORD 0,0,0")
WRONG_NUMBERS = ("", "-1", "+1", "01", "00", "1.5", "1234567890", "a", "x1", "1x", "\u0661", "\u00b2", "1\t", "0x1",
                 "1_0", "-", "--", "1/1", "1;1", "None", "\n", "1\n")


class Consoles(Trial):
    def assert_runs(self, held, command, answer):
        """The console gives this answer, and notes the command."""
        before = held.log()
        self.assertEqual(held.run(command), answer)
        self.assertEqual(held.log(), before + command + "\n")

    def assert_no_form(self, held, command):
        """The console knows no such form, and nothing is changed."""
        before = held.log()
        with self.assertRaises(RowError) as caught:
            held.run(command)
        self.assertIs(type(caught.exception), BadSyntax)
        self.assertEqual(caught.exception.at, 0)
        self.assertIs(type(caught.exception.at), int)
        self.assertEqual(held.log(), before)
        # A log with this line is wrong there, unless the line feed makes other lines of it.
        if "\n" not in command:
            self.assert_bad_line(2, f"{FREE}\nshow a\n{command}\nshow a\n")

    def assert_bad_line(self, at, log):
        with self.assertRaises(RowError) as caught:
            Console.replayed(log)
        self.assertIs(type(caught.exception), BadLine)
        self.assertIs(type(caught.exception.at), int)
        self.assertEqual(caught.exception.at, at)

    def held(self, line=LINE, *more):
        """A console with this line under the name a."""
        held = Console()
        tasks = ";".join(f"{usual}/{upper}" for usual, upper in line.tasks)
        models = ";".join(",".join(map(str, model)) or "-" for model in line.models)
        self.assert_runs(held, f"free a {'-' if line.slips is None else line.slips} {tasks} {models}", "ok")
        for before, after in line.order:
            self.assert_runs(held, f"order a {before} {after}", "ok")
        self.assert_runs(held, "show a", printed(line))
        for command in more:
            held.run(command)
        return held


class Changes(Consoles):
    def test_free(self):
        for command, line in ((FREE, LINE), ("free a 0 1/2 0", free_line(((1, 2),), (), ((0,),))),
                              ("free a - 1/2 0", free_line(((1, 2),), (), ((0,),), slips=None)),
                              ("free a 8 0/10000 -", free_line(((0, 10000),), (), ((),), slips=8)),
                              ("free a 0 1/1;2/2 -;0;1;0,1;-",
                               free_line(((1, 1), (2, 2)), (), ((), (0,), (1,), (0, 1), ())))):
            held = Console()
            self.assert_runs(held, command, "ok")
            self.assert_runs(held, "show a", printed(line))

    def test_free_that_is_refused(self):
        for command, error in (("free a 9 1/1 0", "BadValue"), ("free a 0 2/1 0", "BadTask"),
                               ("free a 0 1/10001 0", "BadTask"), ("free a 0 1/1 1", "BadModel"),
                               ("free a 0 1/1;1/1 1,0", "BadModel"), ("free a 0 1/1 0,0", "BadModel"),
                               ("free a 0 " + ";".join(["1/1"] * 25) + " 0", "TooMany"),
                               ("free a 0 1/1 " + ";".join(["0"] * 9), "TooMany"),
                               ("free a 9 2/1 5", "BadTask"), ("free a 9 1/1 5", "BadModel"),
                               ("free a 999999999 1/1 0", "BadValue"), ("free a 0 999999999/999999999 0", "BadTask")):
            held = self.held()
            self.assert_runs(held, command, "error " + error)
            self.assert_runs(held, "show a", printed(LINE))
            held = Console()
            self.assert_runs(held, command, "error " + error)
            self.assert_runs(held, "show a", "error Unknown")

    def test_a_new_line_takes_the_place_of_an_old_one(self):
        held = self.held()
        self.assert_runs(held, "free b 0 7/7 0", "ok")
        self.assert_runs(held, "free a 0 1/2 0", "ok")
        self.assert_runs(held, "show a", printed(free_line(((1, 2),), (), ((0,),))))
        self.assert_runs(held, "show b", printed(free_line(((7, 7),), (), ((0,),))))
        self.assert_runs(held, "free a 0 2/1 0", "error BadTask")
        self.assert_runs(held, "show a", printed(free_line(((1, 2),), (), ((0,),))))

    def test_order(self):
        held = self.held()
        self.assert_runs(held, "order a 0 1", "ok")
        self.assert_runs(held, "order a 2 1", "ok")
        self.assert_runs(held, "order a 0 2", "ok")
        line = Line(LINE.tasks, ((0, 1), (2, 1), (0, 2)), LINE.models, LINE.states, 0, slips=1)
        self.assert_runs(held, "show a", printed(line))
        for pair in ("0 1", "1 0", "1 2", "0 0", "0 3", "3 0", "999999999 0"):
            self.assert_runs(held, "order a " + pair, "error BadPair")
            self.assert_runs(held, "show a", printed(line))

    def test_200_pairs(self):
        held = Console()
        tasks = ";".join(["1/1"] * 24)
        self.assert_runs(held, f"free a 0 {tasks} 0", "ok")
        pairs = [(first, second) for first in range(24) for second in range(first + 1, 24)]
        for first, second in pairs[:200]:
            self.assertEqual(held.run(f"order a {first} {second}"), "ok")
        self.assert_runs(held, "order a {} {}".format(*pairs[200]), "error TooMany")
        self.assertEqual(parse(held.run("show a")).order, tuple(pairs[:200]))
        self.assertEqual(Console.replayed(held.log()).run("show a"), held.run("show a"))

    def test_slips(self):
        held = self.held()
        for word, slips in (("0", 0), ("8", 8), ("-", None), ("3", 3)):
            self.assert_runs(held, "slips a " + word, "ok")
            self.assert_runs(held, "show a", printed(with_slips(LINE, slips)))
        for word in ("9", "10", "999999999"):
            self.assert_runs(held, "slips a " + word, "error BadValue")
            self.assert_runs(held, "show a", printed(with_slips(LINE, 3)))

    def test_unknown_names(self):
        held = self.held()
        for command in COMMANDS[1:]:
            other = command.replace(" a", " b", 1)
            self.assert_runs(held, other, "error Unknown")
            self.assert_runs(held, "show b", "error Unknown")
            self.assert_runs(Console(), command, "error Unknown")
            self.assert_no_form(held, other + " ")
        # The name is looked up ahead of what else may be wrong.
        self.assert_runs(held, "slips b 99", "error Unknown")
        self.assert_runs(held, "order b 5 5", "error Unknown")
        self.assert_runs(held, "show a", printed(LINE))

    def test_names(self):
        held = Console()
        names = ("a", "z", "abcdefghijkl", "zzzzzzzzzzzz", "free", "show", "none", "error", "aa", "ab")
        for at, name in enumerate(names):
            self.assert_runs(held, f"free {name} 0 {at}/{at} 0", "ok")
        for at, name in enumerate(names):
            self.assert_runs(held, "show " + name, printed(free_line(((at, at),), (), ((0,),))))
        for name in ("", "abcdefghijklm", "A", "aB", "a1", "1", "a-b", "a_b", "\u00e4", "a\u00e9", "a ", " a", "a\n", "-",
                     "a.", "\u0131", "\u1d43", "z{", "`a", "a\t", "a" * 20000):
            self.assert_no_form(held, "show " + name)
            self.assert_no_form(held, f"free {name} 0 1/1 0")
            self.assert_no_form(held, f"slips {name} 0")


class Answers(Consoles):
    def test_safe(self):
        held = self.held()
        for words, answer in (("0,0,1 0 4 6", "overflows 2"), ("0,0,1 0 2 6", "overflows 1"), ("0,0,1 0 3 6", "safe"),
                              ("0,0,1 0 300000 5", "loops"), ("0,0,1 1 0 3", "safe"), ("0,0,1 23 0 0", "safe"),
                              ("0,0,1 1 0 2", "overflows 1")):
            plan, station, window, beat = words.split()
            told = safe(LINE, tuple(map(int, plan.split(","))), int(station), int(window), int(beat))
            expected = {"bounds": "safe", "loop": "loops", "row": f"overflows {len(told[1])}"}[told[0]]
            self.assert_runs(held, "safe a " + words, expected)
            if words != "0,0,1 0 4 6":
                self.assertEqual(expected, answer)
        for words in ("0,0 0 4 6", "0,0,24 0 4 6", "0,0,1 24 4 6", "0,0,1 0 300001 6", "0,0,1 0 4 300001",
                      "0,0,0,0 0 4 6", "999999999,0,0 0 4 6"):
            self.assert_runs(held, "safe a " + words, "error BadValue")
        self.assert_runs(held, "order a 0 1", "ok")
        self.assert_runs(held, "safe a 1,0,1 0 4 6", "error BadValue")

    def test_beat(self):
        held = self.held()
        for plan, windows in (((0, 0, 1), (4, 0)), ((0, 0, 0), (0,)), ((0, 1, 2), (0, 0, 0)), ((0, 0, 1), (300000, 3)),
                              ((2, 0, 0), (0, 1, 2, 3))):
            words = " ".join(",".join(map(str, value)) for value in (plan, windows))
            self.assert_runs(held, "beat a " + words, str(least_beat(LINE, plan, windows)[0]))
        self.assert_runs(held, "beat a 0,0,0 300000", "9")
        for words in ("0,0,1 0", "0,0 0,0", "0,0,1 0,300001", "0,0,24 0"):
            self.assert_runs(held, "beat a " + words, "error BadValue")
        self.assert_runs(Console.replayed("free a 0 0/0 0\n"), "beat a 0 0", "0")

    def test_best(self):
        held = self.held()
        for windows in ((0,), (0, 0), (0, 0, 0), (300000,), (5, 0)):
            self.assert_runs(held, "best a " + ",".join(map(str, windows)), str(best_beat(LINE, windows)[0]))
        self.assert_runs(held, "best a 0,0,0", "5")
        self.assert_runs(held, "best a 300001", "error BadValue")
        self.assert_runs(held, "best a " + ",".join(["0"] * 25), "error BadValue")
        self.assert_runs(held, f"free b 0 {';'.join(['1/1'] * 19)} 0", "ok")
        self.assert_runs(held, "best b 0,0", "error TooMany")
        self.assert_runs(held, "best b 0", "1")

    def test_stations(self):
        held = self.held()
        for windows, beat in (((0, 0, 0), 7), ((0, 0, 0), 5), ((0, 0, 0), 4), ((0,), 12), ((0,), 11)):
            many = fewest_stations(LINE, windows, beat)[0]
            words = ",".join(map(str, windows)) + f" {beat}"
            self.assert_runs(held, "stations a " + words, "none" if many is None else str(many))
        self.assert_runs(held, "stations a 0,0,0 4", "none")
        self.assert_runs(held, "stations a 0,0,0 5", "3")
        self.assert_runs(held, "stations a 0 300001", "error BadValue")
        self.assert_runs(held, f"free b 0 {';'.join(['1/1'] * 19)} 0", "ok")
        self.assert_runs(held, "stations b 0,0 300000", "error TooMany")

    def test_moves(self):
        held = self.held()
        for windows, beat, old in (((0, 0), 7, (0, 0, 0)), ((0, 0), 7, (0, 1, 0)), ((0, 0), 6, (0, 0, 0)),
                                   ((0,), 12, (23, 23, 23)), ((0, 0, 0), 5, (0, 0, 0))):
            many = fewest_moves(LINE, windows, beat, old)[0]
            words = ",".join(map(str, windows)) + f" {beat} " + ",".join(map(str, old))
            self.assert_runs(held, "moves a " + words, "none" if many is None else str(many))
        self.assert_runs(held, "moves a 0 12 0,0,0", "0")
        self.assert_runs(held, "moves a 0 12 23,23,23", "3")
        self.assert_runs(held, "moves a 0 11 0,0,0", "none")
        for words in ("0 5 0,0", "0 5 0,0,24", "0 300001 0,0,0", "300001 5 0,0,0", "0 5 0,0,0,0"):
            self.assert_runs(held, "moves a " + words, "error BadValue")
        self.assert_no_form(held, "moves a 0 5 0,-1,0")
        self.assert_runs(held, f"free b 0 {';'.join(['1/1'] * 19)} 0", "ok")
        self.assert_runs(held, f"moves b 0,0 300000 {','.join(['0'] * 19)}", "error TooMany")

    def test_rate(self):
        held = self.held()
        for plan, places, run in (((0, 0, 1), (0,), (0, 1)), ((0, 0, 0), (), (0,)), ((1, 0, 2), (0, 20), (0, 1, 1)),
                                  ((2, 0, 0), (1, 0), (0,) * 12)):
            words = " ".join(",".join(map(str, value)) or "-" for value in (plan, places, run))
            self.assert_runs(held, "rate a " + words, "{}/{}".format(*rate(LINE, plan, places, run)[0]))
        self.assert_runs(held, "rate a 0,0,0 - 0", "9/1")
        self.assert_runs(held, "rate a 0,0,0 - 1,1", "14/1")
        for words in ("0,0,0 0 0", "0,0,1 - 0", "0,0,1 0,0 0", "0,0,1 21 0", "0,0,1 0 2", "0,0,24 0 0", "0,0 0 0",
                      "0,0,1 0 " + ",".join(["0"] * 13)):
            self.assert_runs(held, "rate a " + words, "error BadValue")
        self.assert_runs(held, "order a 0 1", "ok")
        self.assert_runs(held, "rate a 1,0,1 0 0", "7/1")

    def test_show(self):
        held = self.held()
        self.assert_runs(held, "show a", "line slips 1 start 0\ntask 4 4\ntask 2 5\ntask 3 3\nmodel 0 1 2\nmodel 0 2\n"
                                         "state 0:0 1:0\n")
        self.assertEqual(parse(held.run("show a")), LINE)

    def test_the_overview(self):
        # The free line of these tasks, not the one whose models take turns.
        held = self.held(Line(SMALL.tasks, SMALL.order, SMALL.models, LINE.states, 0, slips=1))
        self.assert_runs(held, "safe a 0,0,1 0 2 6", "overflows 1")
        self.assert_runs(held, "beat a 0,0,1 4,0", "6")

    def test_answers_change_nothing(self):
        held = self.held()
        for command in COMMANDS[3:]:
            first = held.run(command)
            self.assertEqual(held.run(command), first)
            self.assertEqual(held.run("show a"), printed(LINE))


class Forms(Consoles):
    def test_each_form(self):
        held = self.held()
        for command in COMMANDS:
            held.run(command)
        self.assertTrue(held.log().endswith("".join(command + "\n" for command in COMMANDS)))

    def test_words_too_few_or_too_many_or_misspelt(self):
        held = self.held()
        for command in COMMANDS:
            words = command.split(" ")
            for at in range(len(words)):
                self.assert_no_form(held, " ".join(words[:at] + words[at + 1:]))
                self.assert_no_form(held, " ".join(words[:at] + [""] + words[at:]))
                self.assert_no_form(held, " ".join(words[:at] + [words[at] + "!"] + words[at + 1:]))
            for other in (" " + command, command + " ", command.replace(" ", "  ", 1), command.replace(" ", "\t", 1),
                          command + "\n", "\n" + command, command + " 0", command.upper(), command.capitalize(),
                          command + "\t", command + "\r", command.replace(" ", "\u00a0", 1), command.replace(" ", "\n", 1),
                          "x" + command, command + " -", command[1:], command + "\n" + command):
                self.assert_no_form(held, other)

    def test_no_command_at_all(self):
        held = Console()
        for command in ("", " ", "\n", "a", "free", "show", "log", "run", "quit", "-", "0", "places a 0,0 0 5/1",
                        "a" * 20000, "\n" * 20000, "show" + " " * 19000, "keeps a 0 0 0", "rates a 0 - 0"):
            self.assert_no_form(held, command)
        self.assertEqual(held.log(), "")

    def test_numbers(self):
        held = self.held()
        for form in ONLY_NUMBERS:
            for word in WRONG_NUMBERS:
                self.assert_no_form(held, form.replace("WORD", word))
            for word in ("1,1", "0,0"):
                self.assert_no_form(held, form.replace("WORD", word))
            for word in ("0", "1", "10", "999999999", "123456789"):
                self.assertIsInstance(held.run(form.replace("WORD", word)), str)

    def test_lists(self):
        held = self.held()
        for form in ONLY_LISTS:
            for word in WRONG_NUMBERS + (",", "0,", ",0", "0,,0", "0,-", "-,0", "0;0", "0,01", "0, 0", "0,+1", "0,a"):
                self.assert_no_form(held, form.replace("WORD", word))
            for word in ("0", "0,0", "0,0,0", "999999999", "0,123456789"):
                self.assertIsInstance(held.run(form.replace("WORD", word)), str)

    def test_places(self):
        held = self.held()
        for word in [*WRONG_NUMBERS, ",", "0,", "0,-", "-,-", "--"]:
            if word != "-":
                self.assert_no_form(held, f"rate a 0,0,1 {word} 0")
        for word in ("-", "0", "0,0", "20", "999999999"):
            self.assertIsInstance(held.run(f"rate a 0,0,1 {word} 0"), str)

    def test_slips(self):
        held = self.held()
        for word in WRONG_NUMBERS:
            if word != "-":
                self.assert_no_form(held, "slips a " + word)
                self.assert_no_form(held, f"free a {word} 1/1 0")
        for word in ("0,0", "0/0", "-0", "-,"):
            self.assert_no_form(held, "slips a " + word)
            self.assert_no_form(held, f"free a {word} 1/1 0")

    def test_tasks_and_models(self):
        held = self.held()
        for word in ("", "-", "1", "1/", "/1", "/", "1/1/1", "1/1;", ";1/1", "1/1;;1/1", "1/1,1/1", "1,1", "1/-", "-/1",
                     "1/01", "01/1", "1/1234567890", "+1/1", "1/1;-", "1/1;1", "1 /1", "a/b", "1:1", "\u0661/1"):
            self.assert_no_form(held, f"free a 0 {word} 0")
        for word in ("", "0;", ";0", "0;;0", "0,;0", "0,-", "-,0", "--", "0/0", "a", "01", "0;01", "1234567890", "0:0",
                     "-;", ";", "0;+0", "0;-1", "-1"):
            self.assert_no_form(held, f"free a 0 1/1 {word}")
        self.assertEqual(held.run("show a"), printed(LINE))


class Logs(Consoles):
    def test_all_that_was_answered(self):
        held = Console()
        self.assertEqual(held.log(), "")
        told = ""
        for command in COMMANDS + ("show b", "slips a 9", "order a 0 1", "beat a 0,0,1 0", FREE):
            held.run(command)
            told += command + "\n"
            self.assertEqual(held.log(), told)
        for command in ("nothing", "show A", ""):
            self.assert_no_form(held, command)
        self.assertEqual(held.log(), told)

    def test_replayed(self):
        held = Console()
        for command in COMMANDS + ("free b - 1/2 0", "show c", "slips a 9", "free b 0 2/1 0"):
            held.run(command)
        other = Console.replayed(held.log())
        self.assertIs(type(other), Console)
        self.assertEqual(other.log(), held.log())
        for command in ("show a", "show b", "show c") + COMMANDS:
            self.assertEqual(other.run(command), held.run(command))
        self.assertEqual(other.log(), held.log())
        self.assertEqual(held.replayed(held.log()).log(), held.log())

    def test_some_logs(self):
        chosen = some(130)
        pieces = {"NAME": ("a", "b", "c", "abcdefghijkl"), "S": ("-", "0", "1", "8", "9"), "N": ("0", "1", "2", "5", "9"),
                  "LIST": ("0", "0,0", "0,0,1", "0,1,2", "5,0", "0,1"), "PLACES": ("-", "0", "0,0", "1"),
                  "TASKS": ("1/1", "4/4;2/5;3/3", "2/1", "0/3;1/1"), "MODELS": ("-", "0", "0;0,1", "0,1,2;0", "2")}
        forms = ("free NAME S TASKS MODELS", "order NAME N N", "slips NAME S", "safe NAME LIST N N N",
                 "beat NAME LIST LIST", "best NAME LIST", "stations NAME LIST N", "moves NAME LIST N LIST",
                 "rate NAME LIST PLACES LIST", "show NAME")
        errors = 0
        for _ in range(40):
            held, answers = Console(), []
            for _ in range(60):
                form = chosen.choice(forms)
                command = " ".join(chosen.choice(pieces.get(word, (word,))) for word in form.split())
                answers.append(held.run(command))
                errors += answers[-1].startswith("error")
                self.assertIs(type(answers[-1]), str)
            other, told = Console(), held.log().split("\n")[:-1]
            self.assertEqual([other.run(command) for command in told], answers)
            other = Console.replayed(held.log())
            self.assertEqual(other.log(), held.log())
            for name in pieces["NAME"]:
                self.assertEqual(other.run("show " + name), held.run("show " + name))
        self.assertGreater(errors, 200)

    def test_the_empty_log(self):
        held = Console.replayed("")
        self.assertEqual(held.log(), "")
        self.assert_runs(held, FREE, "ok")

    def test_a_wrong_line_at_each_place(self):
        for at in range(len(COMMANDS) + 1):
            for wrong in ("", " ", "show", "show A", "show a ", "wrong", "slips a 01"):
                rows = list(COMMANDS)
                rows.insert(at, wrong)
                self.assert_bad_line(at, "".join(row + "\n" for row in rows))
                rows[-1] = "wrong"
                self.assert_bad_line(min(at, len(rows) - 1), "".join(row + "\n" for row in rows))

    def test_without_a_last_line_feed(self):
        log = "".join(command + "\n" for command in COMMANDS)
        self.assert_bad_line(len(COMMANDS) - 1, log[:-1])
        self.assert_bad_line(len(COMMANDS), log + "show a")
        self.assert_bad_line(len(COMMANDS), log + "wrong")
        self.assert_bad_line(len(COMMANDS), log + " ")
        self.assert_bad_line(len(COMMANDS), log + "\n")
        self.assert_bad_line(0, "show a")
        self.assert_bad_line(0, "wrong")
        self.assert_bad_line(1, "show a\nwrong")
        self.assert_bad_line(1, "show a\nshow a")
        self.assert_bad_line(0, "wrong\nshow a")
        self.assert_bad_line(0, "\n")
        self.assert_bad_line(0, "show a\r\n")

    def test_errors_in_a_log_are_no_wrong_lines(self):
        log = "show a\nslips a 9\nfree a 9 1/1 0\n"
        self.assertEqual(Console.replayed(log).log(), log)

    def test_values_that_are_no_strings(self):
        for value in (*[value for value in ODD_VALUES if type(value) is not str], (FREE + "\n",), [FREE], HUGE, deep(40),
                      Console(), (0,) * 50000):
            self.assert_bad(1, Console.replayed, value)
        self.assertEqual(Console.replayed(log="show a\n").log(), "show a\n")
        for value in ODD_VALUES:
            if type(value) is str and value != "":
                self.assert_bad_line(0, value)

    def test_consoles_are_apart_from_each_other(self):
        first, second = Console(), Console()
        self.assert_runs(first, FREE, "ok")
        self.assert_runs(second, "show a", "error Unknown")
        self.assert_runs(second, "free a 0 1/2 0", "ok")
        self.assert_runs(first, "show a", printed(LINE))
        third = Console.replayed(first.log())
        self.assert_runs(third, "slips a 8", "ok")
        self.assert_runs(first, "show a", printed(LINE))
        self.assertEqual(first.log().count("\n"), 3)
        self.assertEqual(second.log(), "show a\nfree a 0 1/2 0\n")

    def test_its_methods_stand_in_the_class_itself(self):
        self.assertEqual(Console.__module__, "anyrowline.console")
        for name in ("run", "log", "replayed"):
            self.assertIn(name, vars(Console))
        self.assertIsInstance(vars(Console)["replayed"], (staticmethod, classmethod))
        self.assertEqual(Console().run(command="show a"), "error Unknown")
        self.assertIs(console.Console, Console)


if __name__ == "__main__":
    unittest.main()
