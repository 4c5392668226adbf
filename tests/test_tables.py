"""Tables: least ones, closed ones, and functions that are not sound."""

import unittest

from lentcells.code.functions import Function
from lentcells.code.programs import Program
from lentcells.errors import InvalidNumber, InvalidOperation, InvalidProgram, UnknownName
from lentcells.loans.facts import behind, faults_of, first_state
from lentcells.loans.tables import Table, is_closed, is_table, unsound
from making import BOTH, FILL, LENT, SHARED, TRUE, Maker, one_function, plain_rows
from samples import JUNK, deep_junk, with_lists

HEADING = {"arrays": (("full", "a", "n", "w"),), "loans": (("full", "r", "n"), ("full", "s", "n"), ("look", "t", "n"))}
ZERO = ("", 0)


def program(*rows, notes=()):
    """A program of a function f with one parameter and three loans."""
    return one_function(**HEADING, rows=rows, notes=notes)


def reached(made, called):
    """The dict from all pairs (row, state) to which walks lead to the fewest rows of such a walk."""
    rows = plain_rows(made[called])
    found = {(0, first_state(made, called)): 0}
    waiting = list(found)
    for pair in waiting:
        if pair[0] < len(rows):
            for further in rows[pair[0]][1]:
                there = (further, behind(made, called, *pair))
                if there not in found:
                    found[there] = found[pair] + 1
                    waiting.append(there)
    return found


class LeastTest(unittest.TestCase):
    """The least table has just the facts of walks."""

    def check(self, made, called):
        """The table fact by fact and fault by fault beside a going through all walks."""
        table, pairs = Table(made, called), reached(made, called)
        for row in range(len(made[called]) + 1):
            states = [state for at, state in pairs if at == row]
            self.assertEqual(tuple(sorted({fact for state in states for fact in state})), table.states[row])
        faults = {(at, fault) for at, state in pairs for fault in faults_of(made, called, at, state)}
        self.assertEqual(tuple(sorted(faults)), table.faults)
        self.assertIs(table.is_sound, not faults)
        self.assertTrue(is_table(made, called, table.states))
        self.assertTrue(is_closed(made, called, table.states))
        return table

    def test_without_rows(self):
        table = self.check(program(), "f")
        self.assertEqual(((("empty", "r"), ("empty", "s"), ("empty", "t")),), table.states)
        self.assertEqual(((),), Table(one_function(), "f").states)
        self.assertEqual("table of f: 3 facts, 0 faults", str(table))

    def test_empty_lists_and_bodies(self):
        table = self.check(program(("lend", "r", "a"), ("if", TRUE, (), ()), ("while", TRUE, ()), notes=((),)), "f")
        self.assertEqual(4, len(table.states))
        self.assertEqual([table.states[1]] * 2, list(table.states[2:]))

    def test_both_ways_of_an_if(self):
        table = self.check(program(("if", ("or", ()), (("lend", "r", "a"),), ()), ("write", "r", "", 0, ZERO)), "f")
        self.assertIn(("empty", "r"), table.state(2))
        self.assertIn(("held", "r"), table.state(2))
        self.assertEqual(((2, ("empty", "r")),), table.faults)

    def test_facts_of_later_comings(self):
        # r is lent only at the end of the body, s from it at the second coming, and t from that one at the third.
        body = (("lend", "t", "s"), ("lend", "s", "r"), ("lend", "r", "a"))
        table = self.check(program(("while", TRUE, body), notes=((),)), "f")
        self.assertTrue(table.has(0, ("into", "t", "a")))
        self.assertTrue(table.has(0, ("into", "s", "a")))
        self.assertTrue(table.has(0, ("ended", "s")))
        self.assertIn((1, ("empty", "s")), table.faults)
        self.assertIn((1, ("ended", "s")), table.faults)

    def test_whiles_in_whiles(self):
        inner = ("while", TRUE, (("write", "r", "", 0, ZERO), ("while", TRUE, (("lend", "s", "r"),))))
        made = program(("lend", "r", "a"), ("while", TRUE, (inner, ("lend", "t", "a"))), notes=((), (), ()))
        self.assertEqual(((3, ("ended", "r")), (5, ("ended", "r"))), self.check(made, "f").faults)

    def test_of_the_document(self):
        table = self.check(LENT, "f")
        self.assertEqual((34, 34), (len(table), sum(len(state) for state in table.states)))
        self.assertEqual(((1, ("argument", 0)),), self.check(SHARED, "twice").faults)
        self.assertEqual("table of twice: 6 facts, 1 faults", str(Table(SHARED, "twice")))

    def test_random_programs(self):
        sound = 0
        for seed in range(60):
            maker = Maker(seed)
            made = maker.program(maker.random.choice((1, 2, 3)), maker.random.choice((4, 8, 16)))
            tables = [self.check(made, called) for called in made.names]
            sound += len([table for table in tables if table.is_sound])
            self.assertEqual(tuple(table.called for table in tables if not table.is_sound), unsound(made))
        self.assertGreater(sound, 10)


class TableTest(unittest.TestCase):
    """What tables tell."""

    def setUp(self):
        self.table = Table(LENT, "f")

    def test_parts(self):
        self.assertEqual((LENT, "f"), (self.table.program, self.table.called))
        self.assertEqual(6, len(self.table.states))
        self.assertEqual(list(self.table.states), [self.table.state(row) for row in range(6)])

    def test_has(self):
        self.assertIs(self.table.has(0, ("empty", "r")), True)
        self.assertIs(self.table.has(0, ("held", "r")), False)
        self.assertIs(self.table.has(5, ("into", "s", "r")), True)
        self.assertIs(self.table.has(1, ("into", "r", "s")), False)

    def test_wrong_arguments(self):
        for value in (6, -1, 10 ** 70, True, False, None, "0", (), LENT):
            for call in (lambda: self.table.state(value), lambda: self.table.has(value, None)):
                with self.assertRaises(InvalidNumber) as caught:
                    call()
                self.assertEqual(value, caught.exception.number)
        for value in JUNK + (deep_junk(), ("held", "p"), ("into", "r", "r"), ["held", "r"], ("held", "r", "p"), ("into", "r", "w")):
            with self.assertRaises(InvalidOperation):
                self.table.has(1, value)
        for value in JUNK + (deep_junk(), FILL):
            with self.assertRaises(InvalidProgram):
                Table(value, "f")
            with self.assertRaises(InvalidProgram):
                unsound(value)
            with self.assertRaises(UnknownName):
                Table(LENT, value)
            for judge in (is_table, is_closed):
                with self.assertRaises(InvalidProgram):
                    judge(value, "f", None)
                with self.assertRaises(UnknownName):
                    judge(LENT, value, None)

    def test_equality(self):
        self.assertEqual(self.table, Table(LENT, "f"))
        self.assertEqual(Table(BOTH, "fill"), Table(Program((BOTH["fill"], BOTH["twice"])), "fill"))
        self.assertNotEqual(Table(BOTH, "fill"), Table(BOTH, "twice"))
        # The rows are equal, the program is another one.
        self.assertNotEqual(Table(BOTH, "fill"), Table(BOTH.without("twice"), "fill"))
        for value in JUNK + (LENT, self.table.states):
            self.assertNotEqual(self.table, value)
        with self.assertRaises(TypeError):
            iter(self.table)

    def test_unsound(self):
        self.assertEqual(("twice",), unsound(SHARED))
        self.assertEqual((), unsound(LENT))
        wrong = (("write", "r", "", 0, ZERO),)
        made = Program(tuple(Function(called, **HEADING, rows=wrong * (called in "ac")) for called in "cba"))
        self.assertEqual(("a", "c"), unsound(made))


class ClosedTest(unittest.TestCase):
    """Tables that are judged."""

    def judge(self, value):
        return is_table(LENT, "f", value), is_closed(LENT, "f", value)

    def test_more_and_fewer_facts(self):
        least = Table(LENT, "f").states
        self.assertEqual((True, True), self.judge(least))
        self.assertEqual((True, False), self.judge(((),) * 6))
        for at, state in enumerate(least):
            for gone in range(len(state)):
                fewer = state[:gone] + state[gone + 1:]
                self.assertEqual((True, False), self.judge(least[:at] + (fewer,) + least[at + 1:]))
        every = tuple(sorted([(word, loan) for word in ("empty", "held", "ended") for loan in "rs"] +
                             [("into", "r", "p"), ("into", "r", "s"), ("into", "s", "p"), ("into", "s", "r")]))
        self.assertEqual((True, True), self.judge((every,) * 6))
        self.assertEqual((True, True), self.judge(least[:5] + (every,)))

    def test_a_closed_table_with_a_fault_where_the_least_has_none(self):
        made = program(("write", "a", "", 0, ZERO), ("lend", "r", "a"), ("write", "r", "", 0, ZERO))
        least = Table(made, "f")
        self.assertTrue(least.is_sound)
        more = tuple(tuple(sorted({*state, ("ended", "r")})) for state in least.states)
        self.assertTrue(is_closed(made, "f", more))
        ahead = (("empty", "r"), ("empty", "s"), ("empty", "t"), ("held", "s"))
        self.assertFalse(is_closed(made, "f", (ahead,) + least.states[1:]))
        odd = tuple(tuple(sorted({*state, ("ended", "s"), ("into", "s", "r")})) for state in least.states)
        self.assertTrue(is_closed(made, "f", odd))
        ended = least.states[:2] + (tuple(sorted({*least.states[2], ("ended", "r")})), tuple(sorted({*least.states[3], ("ended", "r")})))
        self.assertTrue(is_closed(made, "f", ended))
        self.assertEqual((("ended", "r"),), faults_of(made, "f", 2, ended[2]))

    def test_rows_that_are_not_reached(self):
        least = Table(LENT, "f").states
        for at in range(6):
            self.assertEqual((True, False), self.judge(least[:at] + (None,) + least[at + 1:]))
        self.assertEqual((True, False), self.judge((None,) * 6))
        self.assertTrue(is_closed(one_function(), "f", ((),)))
        self.assertFalse(is_closed(one_function(), "f", (None,)))
        self.assertTrue(is_table(one_function(), "f", (None,)))

    def test_wrong_tables(self):
        least = Table(LENT, "f").states
        for value in JUNK + (deep_junk(), least[:5], least + ((),), list(least), least[:5] + (least[5][::-1],), least[:5] + ([],),
                             least[:5] + (False,), least[:5] + ((None,),), least[:5] + ((("held", "w"),),), least[5], *with_lists(least)):
            self.assertEqual((False, False), self.judge(value))


if __name__ == "__main__":
    unittest.main()
