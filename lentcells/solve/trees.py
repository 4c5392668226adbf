"""Trees: papers that show that questions follow."""

from lentcells.base.integers import check_undo, is_index
from lentcells.errors import InvalidNumber, InvalidOperation
from lentcells.solve.questions import check_question
from lentcells.solve.steps import added_by, names_made, node_of, split_node


class Way:
    """The facts and the new names on the way to the current node, and the open nodes, the current one last.

    An open node is kept with how much of the way to it is that of the node that names it, and what comes behind.
    """

    def __init__(self, question):
        self._frame = question.frame
        self._known = list(question.facts)
        self._made = []
        self._waiting = [(0, len(self._known), (), 0, ())]

    def all_facts(self):
        """The tuple of the facts known at the current node."""
        return tuple(self._known)

    def has_open(self):
        """Whether a node is open."""
        return len(self._waiting) > 0

    def current(self):
        """The number of the current node."""
        return self._waiting[-1][0]

    def open_numbers(self):
        """The ascending tuple of the numbers of the open nodes."""
        return tuple(sorted([entry[0] for entry in self._waiting]))

    def added(self, step):
        """What a step at the current node adds for each of its next ones, or None if it is none there."""
        return added_by(self._frame, self._known, self._made, step)

    def go(self, step, added, nexts):
        """Make the current node by a step that adds this for the next ones with these numbers."""
        known, made = len(self._known), len(self._made)
        self._waiting.pop()
        for number, facts in reversed(list(zip(nexts, added))):
            self._waiting.append((number, known, facts, made, names_made(step)))
        if self.has_open():
            number, known, facts, made, names = self._waiting[-1]
            self._known[known:] = facts
            self._made[made:] = names


def split_tree(value):
    """The pairs (step, nexts) of what has the form of a tree, or None."""
    if not isinstance(value, tuple) or len(value) == 0:
        return None
    rows = [split_node(node) for node in value]
    if not all([row is not None for row in rows]):
        return None
    named = [number for step, nexts in rows for number in nexts]
    if not all([is_index(number, len(rows)) for number in named]) or sorted(named) != list(range(1, len(rows))):
        return None
    for place, (step, nexts) in enumerate(rows):
        if not all([place < number for number in nexts]):
            return None
    return rows


def walk_to(question, rows, node):
    """The way to a node of a tree, or through all nodes if there is none with this number; None if one is wrong."""
    way = Way(question)
    while way.has_open() and way.current() != node:
        step, nexts = rows[way.current()]
        added = way.added(step)
        if added is None or len(added) != len(nexts):
            return None
        way.go(step, added, nexts)
    return way


def is_tree(question, value):
    """Whether the value is a tree of the question."""
    check_question(question)
    rows = split_tree(value)
    return rows is not None and walk_to(question, rows, len(rows)) is not None


def facts_at(question, tree, node):
    """The tuple of the facts known at a node of a tree."""
    if not is_tree(question, tree):
        raise InvalidOperation("this is no tree of the question")
    if not is_index(node, len(tree)):
        raise InvalidNumber(node)
    return walk_to(question, split_tree(tree), node).all_facts()


class Closing:
    """A tree that is made step by step."""

    def __init__(self, question):
        check_question(question)
        self._question = question
        self._take_all([])

    def _take_all(self, steps):
        self._way = Way(self._question)
        self._steps = []
        self._nodes = {}
        self._numbered = 1
        for step in steps:
            self._take(step)

    def _take(self, step):
        if not self._way.has_open():
            raise InvalidOperation("no node is open")
        added = self._way.added(step)
        if added is None:
            raise InvalidOperation("there is no such node here")
        number = self._way.current()
        nexts = tuple(list(range(self._numbered, self._numbered + len(added))))
        self._way.go(step, added, nexts)
        self._steps.append(step)
        self._nodes[number] = node_of(step, nexts)
        self._numbered += len(added)
        return number

    def part(self, fact, place):
        """Add a part of an and, or the like."""
        return self._take(("part", fact, place))

    def cases(self, fact):
        """Go on in a case for each part of an or, or the like."""
        return self._take(("cases", fact))

    def new(self, fact, names):
        """Make names for positions at which an all is false."""
        return self._take(("new", fact, names))

    def use(self, fact, terms):
        """Add what an all says for position terms."""
        return self._take(("at", fact, terms))

    def apart(self, one, other):
        """Go on in three cases of how two position terms compare."""
        return self._take(("apart", one, other))

    def same(self, array, fact):
        """Add that the cells of an array at equal positions are equal."""
        return self._take(("same", array, fact))

    def outside(self, array, fact):
        """Add that a cell outside of an array reads 0."""
        return self._take(("outside", array, fact))

    def ring(self, steps):
        """Close the way by differences that can't all be true."""
        return self._take(("ring", steps))

    @property
    def facts(self):
        """The tuple of the facts known at the current node."""
        if not self._way.has_open():
            raise InvalidOperation("no node is open")
        return self._way.all_facts()

    @property
    def open_nodes(self):
        """The ascending tuple of the open nodes."""
        return self._way.open_numbers()

    @property
    def tree(self):
        """The tuple of the nodes."""
        if self._way.has_open():
            raise InvalidOperation("some node is open")
        return tuple([self._nodes[number] for number in range(self._numbered)])

    def undo(self, *, many=1):
        """Take the last steps back, and return how many nodes are open then."""
        check_undo(many, len(self._steps))
        self._take_all(self._steps[:len(self._steps) - many])
        return len(self._way.open_numbers())

    def twin(self):
        """An equal one that goes on by itself."""
        made = Closing(self._question)
        made._take_all(list(self._steps))
        return made

    def __bool__(self):
        return not self._way.has_open()

    def __len__(self):
        return len(self._steps)

    def __eq__(self, other):
        return isinstance(other, Closing) and self._question == other._question and self._steps == other._steps

    def __str__(self):
        return f"closing with {len(self._steps)} nodes, {len(self._way.open_numbers())} open"
