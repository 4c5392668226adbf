"""The shell: commands and answers."""

import random
import unittest

from lentcells.code.functions import Function
from lentcells.desk.desk import Desk
from lentcells.text.shell import Shell
from lentcells.text.texts import write_function, write_functions
from making import ALL, BOTH, FALSE, FILL, OUTER, TRUE, TWICE, TWO
from samples import JUNK, deep_junk

ZERO = ("", 0)
SET = Function("set", arrays=(("full", "a", "n", "o"),), positions=("p",), values=("x",), rows=(("write", "a", "p", 0, ("x", 0)),),
               before=(("pos", "<=", ("", 0), ("p", 0)), ("pos", "<", ("p", 0), ("n", 0))), after=(("val", "==", ("a", "p", 0, 0), ("x", 0)),))
WEAK = FILL.with_notes(0, ())
LOANS = Function("loans", arrays=(("full", "a", "n", "o"),), loans=(("full", "r", "n"), ("look", "s", "n")), numbers=("y",),
                 rows=(("keep", "y", ("s", "", 0, 0)), ("lend", "r", "a"), ("lend", "s", "r"), ("write", "a", "", 0, ZERO), ("write", "r", "", 0, ("s", "", 0, 0)), ("call", "two", ("a", "a"), (), ())))


def shell_with(*functions, commands=()):
    """A shell with these functions, behind some commands."""
    shell = Shell()
    if functions:
        shell("put " + write_functions(functions))
    for command in commands:
        shell(command)
    return shell


class AnswersTest(unittest.TestCase):
    """Each command with its answers."""

    def told(self, shell, *pairs):
        """Commands with the answers that are expected, and whether they count."""
        for command, answer in pairs:
            many = len(shell)
            self.assertEqual(answer, shell(command), command)
            wrong = answer in ("what", "function", "program", "cannot") or answer.split(" ")[0] in ("text", "unknown", "refused", "many", "nothing")
            self.assertEqual(many + (not wrong), len(shell), command)

    def test_of_the_document(self):
        shell, text = Shell(), write_function(SET)
        self.told(shell, ("put " + text, "set kept"), ("show set", text), ("demand kept set", "none"), ("put " + text.replace("[0 <= p] & ", ""), "refused kept set"), ("faults set", "none"),
                  ("take set", "refused kept set"), ("verdicts", "set kept"), ("waive kept set", "none"), ("take set", "set -"), ("undo", "set kept"), ("take old", "unknown old"),
                  ("put set()", "text 4"), ("undo 9", "nothing 9"), ("names now", "what"))
        self.assertEqual((8, "shell of 8 commands"), (len(shell), str(shell)))

    def test_nothing_there(self):
        self.told(Shell(), ("names", "none"), ("claims", "none"), ("verdicts", "none"), ("undo 0", "none"), ("redo 0", "none"), ("undo", "nothing 1"), ("redo", "nothing 1"), ("show f", "unknown f"),
                  ("callers f", "unknown f"), ("faults f", "unknown f"), ("take f", "unknown f"), ("stands f g", "unknown f"), ("demand kept f", "unknown f"), ("waive kept f", "cannot"),
                  ("demand stands f g", "unknown f"), ("undo 00", "what"))
        self.assertEqual("shell of 0 commands", str(Shell()))

    def test_changes(self):
        shell = Shell()
        self.told(shell, ("put " + write_functions((TWICE, FILL)), "fill kept; twice kept"), ("put " + write_function(FILL), "none"), ("put " + write_function(WEAK), "fill broken"), ("undo", "fill kept"),
                  ("redo", "fill broken"), ("undo 2", "fill kept"), ("undo 1", "fill -; twice -"), ("redo 3", "fill broken; twice kept"), ("redo 1", "nothing 1"), ("take twice", "twice -"), ("take fill", "fill -"),
                  ("undo 2", "fill broken; twice kept"), ("undo 5", "nothing 5"), ("undo " + "9" * 60, "nothing " + "9" * 60), ("undo 3", "fill -; twice -"), ("names", "none"))

    def test_show_and_callers(self):
        functions = (FILL, TWICE, TWO, OUTER.called_as("outer"))
        shell = shell_with(*functions)
        self.told(shell, *[(f"show {function.called}", write_function(function)) for function in functions])
        self.told(shell, ("callers fill", "twice"), ("callers two", "outer"), ("callers outer", "none"), ("names", "fill; outer; twice; two"),
                  ("verdicts", "fill kept; outer faulty; twice kept; two broken"))
        shell("put " + write_function(TWICE.called_as("more")))
        self.told(shell, ("callers fill", "more; twice"))

    def test_claims(self):
        shell = shell_with(FILL, TWICE, FILL.called_as("other"))
        self.told(shell, ("demand stands other fill", "none"), ("demand kept twice", "none"), ("demand calls twice fill", "none"), ("demand sound fill", "none"),
                  ("claims", "stands other fill; kept twice; calls twice fill; sound fill"), ("demand kept twice", "cannot"), ("demand calls fill twice", "refused calls fill twice"), ("demand kept none", "unknown none"),
                  ("demand stands fill none", "unknown none"), ("waive kept fill", "cannot"), ("waive kept twice", "none"), ("claims", "stands other fill; calls twice fill; sound fill"),
                  ("take twice", "refused calls twice fill"), ("take other", "refused stands other fill"), ("demand sound other", "none"), ("demand sound twice", "none"), ("demand kept fill", "none"), ("demand kept other", "none"),
                  ("demand kept twice", "none"), ("demand stands fill other", "many 8"))

    def test_stands(self):
        shell = shell_with(FILL, WEAK.called_as("weak").with_contract((), ()), TWO)
        self.told(shell, ("stands fill weak", "yes"), ("stands weak fill", "no"), ("stands two fill", "no"), ("stands fill fill", "yes"), ("stands fill none", "unknown none"), ("stands some none", "unknown some"))
        great = Function("f", positions=("i",), before=(("pos", "<=", ("i", 5000), ("i", 0)),))
        shell = shell_with(great, great.called_as("g").with_contract((), ()))
        self.told(shell, ("stands f g", "many 1000"), ("demand stands f g", "many 1000"))

    def test_faults(self):
        shell = shell_with(LOANS, TWO)
        self.told(shell, ("faults two", "none"), ("faults loans", "0 empty s; 4 ended r; 4 ended s; 5 argument 0"), ("verdicts", "loans faulty; two broken"))
        self.told(shell_with(TWO, OUTER), ("faults twice", "1 argument 0"))

    def test_errors_of_functions(self):
        shell = shell_with(FILL)
        text = write_function(FILL)
        self.told(shell, ("put " + text.replace("i := i+1", "a := i+1"), "function"), ("put " + text + "\n" + text, "function"), ("put " + write_function(TWICE.called_as("fill")), "program"),
                  ("put " + write_function(OUTER), "program"), ("put " + text + "\n", f"text {len(text) + 1}"), ("put  " + text, "text 0"), ("put f(", "text 2"), ("put " + text + " ", f"text {len(text)}"),
                  ("put " + "\n".join(text.replace("fill(", f"{called}(") for called in ("f", "g", "h", "k", "l", "m")), "many 6"))
        many = Function("f", rows=(("if", TRUE, (), ()),) * 7)
        writes = Function("f", arrays=(("full", "a", "n", "w"),), rows=(("write", "a", "", 0, ZERO),) * 5)
        great = Function("f", positions=("i",), after=(("pos", "<=", ("i", 5000), ZERO),))
        ahead = Function("f", arrays=(("full", "a", "n", "w"),), rows=(("if", ("and", (TRUE,) * 41 + (("val", "<", ("a", "", 0, 0), ZERO),)), (), ()),))
        self.told(shell, *[("put " + write_function(function), answer) for function, answer in ((many, "many 64"), (writes, "many 4"), (great, "many 1000"), (ahead, "cannot"))])
        self.told(shell, ("names", "fill"))

    def test_values_that_are_no_commands(self):
        shell = shell_with(FILL)
        for value in (*JUNK, deep_junk(), FILL, b"names", ["names"], "", " ", "  ", "names ", " names", "names\n", "Names", "name", "puts", "names fill", "claims x", "verdicts ", "verdicts  ", "put", "put ", "take", "take ",
                      "take  fill", "take fill ", "take Fill", "take abcdefghi", "take fill twice", "take fill\n", "take 1", "demand", "demand ", "demand kept", "demand kept ", "demand kept fill fill", "demand  kept fill",
                      "demand kept  fill", "demand kept fill ", "demand kept Fill", "demand Kept fill", "demand stands fill", "demand (kept, fill)", "demand kept\nfill", "waive", "waive ", "waive kept", "waive fill", "undo ",
                      "undo  1", "undo -1", "undo 01", "undo 00", "undo +1", "undo 1 ", "undo one", "undo 1 2", "undo " + "1" * 61, "undo 1.0", "redo ", "redo x", "redo -0", "show", "show ", "show fill fill", "show FILL", "callers",
                      "callers ", "callers fill, twice", "faults", "faults ", "faults 1", "stands", "stands ", "stands fill", "stands fill ", "stands fill  fill", "stands fill fill fill", "stands fill Fill", "desk", "len", "quit",
                      "put\n" + write_function(FILL), "put\t" + write_function(FILL)):
            self.assertEqual("what", shell(value), value)
            self.assertEqual("what", shell.answer(value), value)
        self.assertEqual(1, len(shell))
        self.assertEqual("fill", shell("names"))

    def test_answer_and_call_are_the_same(self):
        one, other = Shell(), Shell()
        for command in ("put " + write_functions((FILL, TWICE)), "verdicts", "take fill", "demand kept fill", "names", "undo 7", "what", None):
            self.assertEqual(one(command), other.answer(command))
        self.assertEqual((str(one), one.desk()), (str(other), other.desk()))


class ShellTest(unittest.TestCase):
    """The shell as an object."""

    def test_errors_have_no_effect(self):
        shell = shell_with(FILL, TWICE, commands=("demand kept twice", "put " + write_function(WEAK), "undo"))
        before = shell.desk()
        for command in ("take twice", "take fill", "put set()", "undo 5", "redo 2", "demand kept twice", "demand kept none", "demand calls fill fill", "what", None, "put " + write_function(OUTER)):
            answer = shell(command)
            self.assertNotIn(answer, ("none", "fill kept"))
            self.assertEqual(before, shell.desk())
        self.assertEqual(4, len(shell))
        # What was taken back can still be done again.
        self.assertEqual("fill broken", shell("redo"))
        self.assertEqual((5, "shell of 5 commands"), (len(shell), str(shell)))

    def test_its_desk_is_a_twin(self):
        shell = shell_with(FILL, TWICE, commands=("demand kept twice",))
        desk = shell.desk()
        self.assertIsInstance(desk, Desk)
        other = Desk()
        other.put((FILL, TWICE))
        other.demand(("kept", "twice"))
        self.assertEqual(other, desk)
        desk.waive(("kept", "twice"))
        desk.take("twice")
        self.assertEqual("fill; twice", shell("names"))
        self.assertEqual("kept twice", shell("claims"))
        self.assertEqual("none", shell("undo"))
        self.assertEqual(("fill",), desk.names)
        # It has all changes to take back, too.
        self.assertEqual((("twice", "kept"),), desk.undo())
        self.assertEqual((("fill", None), ("twice", None)), desk.undo(many=3))

    def test_no_iteration(self):
        with self.assertRaises(TypeError):
            iter(Shell())

    def test_beside_a_desk(self):
        # A shell answers what a desk tells.
        parts = (FILL, WEAK, TWICE, TWICE.with_contract((), (TRUE,)), FILL.with_contract((FALSE,), (ALL,)), TWO, OUTER, LOANS)
        for seed in range(15):
            rand = random.Random(seed)
            shell, desk = Shell(), Desk()
            for _ in range(20):
                word = rand.choice(("put", "put", "put", "take", "undo", "redo", "demand", "waive"))
                part, name = rand.choice(parts), rand.choice(("fill", "twice", "two", "loans"))
                claim = rand.choice((("kept", name), ("sound", name), ("calls", "twice", "fill"), ("stands", "fill", "fill")))
                many = rand.randint(0, 2)
                command, change = {
                    "put": ("put " + write_function(part), lambda same, part=part: same.put((part,))),
                    "take": (f"take {name}", lambda same, name=name: same.take(name)),
                    "undo": (f"undo {many}", lambda same, many=many: same.undo(many=many)),
                    "redo": (f"redo {many}", lambda same, many=many: same.redo(many=many)),
                    "demand": ("demand " + " ".join(claim), lambda same, claim=claim: same.demand(claim)),
                    "waive": ("waive " + " ".join(claim), lambda same, claim=claim: same.waive(claim)),
                }[word]
                try:
                    news = change(desk)
                    expected = "; ".join(f"{called} {verdict or '-'}" for called, verdict in news) or "none"
                    self.assertEqual(expected, shell(command))
                except (ValueError, LookupError, ArithmeticError):
                    many = len(shell)
                    shell(command)
                    self.assertEqual(many, len(shell))
                self.assertEqual(desk, shell.desk())
                self.assertEqual("; ".join(desk.names) or "none", shell("names"))
                self.assertEqual("; ".join(" ".join(told) for told in desk.claims) or "none", shell("claims"))
                self.assertEqual("; ".join(f"{called} {verdict}" for called, verdict in desk.verdicts.items()) or "none", shell("verdicts"))

    def test_whole_programs(self):
        shell = shell_with(*BOTH.functions)
        self.assertEqual(BOTH, shell.desk().whole())


if __name__ == "__main__":
    unittest.main()
