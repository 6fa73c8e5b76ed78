"""Runs of programs."""

from farbits.errors import NegativeShift, TooLong, TooManyTerms, UnknownName
from farbits.evaluation import applied_between, evaluated
from farbits.folds import SHIFTS, SUMS, applied, gain_of, gain_repeated, gain_then
from farbits.folds import pairs_below, single_name
from farbits.limits import judged
from farbits.raw import opposite, plus, times
from farbits.trees import Assignment, Choice
from farbits.turns import compare, is_negative

MOST_STATEMENTS = 10000
MOST_TURNS = 40


class Run:
    """The forms by name while a program runs, and the line that is done now."""

    def __init__(self, numbers):
        self.numbers = numbers
        self.line = 0
        self.done = 0

    def begin(self, statement):
        """Counts a statement that is done now."""
        self.line = statement.line
        if self.done == MOST_STATEMENTS:
            raise TooLong()
        self.done += 1

    def number_of(self, name):
        """The form of a name."""
        if name not in self.numbers:
            raise UnknownName(name)
        return self.numbers[name]

    def do_block(self, block):
        """Does the statements of a block in order."""
        for statement in block:
            self.begin(statement)
            if isinstance(statement, Assignment):
                self.assign(statement)
            elif isinstance(statement, Choice):
                self.choose(statement)
            else:
                self.repeat(statement)

    def assign(self, statement):
        """Does an assignment."""
        name = statement.name
        if statement.operator == "":
            value = evaluated(statement.steps, self.numbers)
        else:
            left = self.number_of(name)
            right = evaluated(statement.steps, self.numbers)
            value = applied_between(statement.operator, left, right)
        self.numbers[name] = judged(value)

    def choose(self, choice):
        """Does one of the blocks of a choice."""
        left = evaluated(choice.left, self.numbers)
        right = evaluated(choice.right, self.numbers)
        if is_so(compare(left, right), choice.comparison):
            self.do_block(choice.block)
        elif choice.other is not None:
            self.do_block(choice.other)

    def repeat(self, statement):
        """Does a block as often as the count tells."""
        count = evaluated(statement.steps, self.numbers)
        if statement.is_folded:
            Fold(self).finish(statement, count)
            return
        # Each round does a statement at least, so that more rounds are never done.
        rounds = MOST_STATEMENTS + 1
        if compare(count, rounds) < 0:
            rounds = count if compare(count, 0) > 0 else 0
        for _ in range(rounds):
            self.do_block(statement.block)


def is_so(order, comparison):
    """Whether a comparison is true for numbers in an order."""
    if comparison == "==":
        return order == 0
    if comparison == "!=":
        return order != 0
    if comparison == "<":
        return order < 0
    if comparison == "<=":
        return order <= 0
    return order > 0 if comparison == ">" else order >= 0


class Fold:
    """An outermost folded repeat while its first round is done.

    For each name in the order of the first steps, `firsts` has that step, and for each
    sum of a name, `sums` has its name, its operator and that name.
    """

    def __init__(self, run):
        self.running = run
        self.firsts = {}
        self.sums = []

    def finish(self, repeat, count):
        """Makes of the names what so many rounds make of them."""
        if compare(count, 0) <= 0:
            return
        run = self.running
        gains = self.gains_of(repeat, count)
        numbers = {}
        for name in self.firsts:
            numbers[name] = applied(gain_repeated(gains[name], count), run.numbers[name])
        for name, amount in self.growth(gains):
            numbers[name] = plus(numbers[name], times(amount, pairs_below(count)))
        for name in self.firsts:
            run.line = self.firsts[name].line
            run.numbers[name] = judged(numbers[name])

    def growth(self, gains):
        """Pairs of a name and what each round adds more to it than the one before."""
        pairs = []
        for name, operator, other in self.sums:
            if other in gains:
                amount = gains[other][1]
                pairs.append((name, opposite(amount) if operator == "-" else amount))
        return pairs

    def gains_of(self, repeat, count):
        """The dict of what one round makes of each name; the count is above 0."""
        if not isinstance(count, int) and len(count) > MOST_TURNS:
            raise TooManyTerms(len(count))
        gains = {}
        for statement in repeat.block:
            self.running.begin(statement)
            if isinstance(statement, Assignment):
                gain = self.gain_of_step(statement, gains)
                gains[statement.name] = gain_then(gains.get(statement.name), gain)
            else:
                inner = self.gains_within(statement)
                for name in inner:
                    gains[name] = gain_then(gains.get(name), inner[name])
        return gains

    def gains_within(self, repeat):
        """The dict of what an inner repeat makes of each name."""
        count = evaluated(repeat.steps, self.running.numbers)
        if compare(count, 0) <= 0:
            return {}
        gains = self.gains_of(repeat, count)
        return {name: gain_repeated(gains[name], count) for name in gains}

    def gain_of_step(self, step, gains):
        """What a step makes of its name in the first round."""
        self.running.number_of(step.name)
        amount = evaluated(step.steps, self.running.numbers)
        if step.name not in self.firsts:
            self.firsts[step.name] = step
        gain = gain_of(step.operator, amount)
        if gain[0] == SHIFTS and is_negative(amount):
            raise NegativeShift(amount)
        name = single_name(step.steps)
        if gain[0] == SUMS and name is not None:
            self.sums.append((step.name, step.operator, name))
            if name in gains:
                amount = plus(amount, gains[name][1])
                gain = gain_of(step.operator, amount)
        return gain
