"""Mixtures of what was seen to be let, or else a stock that lets all of this and not some standing.

Each stock of a book is a sum of basic ones: one has a piece in the morning that no job changes, and in each other one
a begin, or an end, of one job changes what there is by a piece. So of a standing only its levels count: what each
basic stock has there. A mixture is right if no basic stock has more of what is mixed than of the standing, and
exactly as much if a stock can take that basic one away, too.

What is asked about is an aim (one, pairs): a standing, or the sum or difference of some, told by how often what there
is in the morning goes into it, and by how often each job has begun, and ended.
"""

from math import gcd

from unseenstocks.errors import BadStanding
from unseenstocks.forms import is_integer, is_number, is_standing, is_stock, is_told
from unseenstocks.shops import keeps, level_at

# Of a basic stock: what there is in the morning, a job, what its begin and end change, whether it can be taken away.
MORNING = (1, 0, 0, 0, False)
CHANGES = {
    "plain": ((-1, 0, False), (0, 1, False)),
    "clean": ((-1, 1, False),),
    "spent": ((-1, 0, False),),
    "free": ((1, 0, True), (0, 1, True)),
}


def sure(book, standing):
    """A right mixture of a standing, or a stock that keeps the book and does not let it."""
    if not is_standing(standing, len(book.jobs)):
        raise BadStanding(standing)
    return proof(book.manners, book.facts, (1, standing))


def shows_sure(book, standing, value):
    """Whether any value is a result of sure."""
    if not is_standing(standing, len(book.jobs)):
        raise BadStanding(standing)
    if is_told(value, "sure", 2):
        return is_right(book.manners, book.facts, (1, standing), value[1])
    return is_told(value, "stock", 2) and is_refusing(book.manners, book.facts, standing, value[1])


def proof(manners, facts, aim):
    """What sure tells of an aim: a right mixture of it, or a stock that keeps the facts and is below 0 there."""
    return proof_by(basic_stocks(manners), facts, aim)


def proof_by(basics, facts, aim):
    """What proof tells where all stocks are sums of some basic ones."""
    found = parted(basics, facts, [aim])
    if found[0] == "stock":
        return found
    shares, weights, backs = found[1]
    return ("sure", (shares[0], weights, backs))


def proofs(manners, facts, standings):
    """("always", mixtures) with right ones of all standings, or ("stock", number, stock) of the first not sure."""
    mixtures = []
    for number, standing in enumerate(standings):
        word, found = proof(manners, facts, (1, standing))
        if word == "stock":
            return ("stock", number, found)
        mixtures.append(found)
    return ("always", tuple(mixtures))


def are_right(manners, facts, standings, value):
    """Whether a value is a tuple of right mixtures, one for each standing."""
    if not isinstance(value, tuple) or len(value) != len(standings):
        return False
    return all([is_right(manners, facts, (1, pairs), mixture) for pairs, mixture in zip(standings, value)])


def is_right(manners, facts, aim, value):
    """Whether a value is a right mixture of an aim."""
    return is_right_by(basic_stocks(manners), facts, aim, value)


def is_right_by(basics, facts, aim, value):
    """Whether a value is a right mixture of an aim where all stocks are sums of some basic ones."""
    if not isinstance(value, tuple) or len(value) != 3:
        return False
    times, weights, backs = value
    if not is_integer(times) or times < 1 or not are_parts(weights, backs, facts):
        return False
    whole = [times * level for level in levels(basics, aim)]
    return is_enough(basics, facts, whole, weights + backs)


def is_refusing(manners, facts, pairs, value):
    """Whether a value is a stock that keeps the facts and is below 0 at these pairs."""
    return is_stock(value, manners) and keeps(value, facts) and level_at(value, pairs) < 0


def are_parts(weights, backs, facts):
    """Whether two values can be the weights and the backs of a mixture of facts."""
    return is_parts(weights, facts, "let") and is_parts(backs, facts, "as")


def is_parts(value, facts, kind):
    """Whether a value tells how often facts of one kind are taken, their numbers ascending."""
    if not isinstance(value, tuple) or not all([is_part(part, facts, kind) for part in value]):
        return False
    numbers = [number for number, _ in value]
    return numbers == sorted(set(numbers))


def is_part(value, facts, kind):
    """Whether a value tells how often a fact of one kind is taken: of facts as, also less often than not at all."""
    if not isinstance(value, tuple) or len(value) != 2:
        return False
    number, times = value
    if not is_number(number, len(facts)) or facts[number][0] != kind or not is_integer(times):
        return False
    return times > 0 or (kind == "as" and times < 0)


def is_enough(basics, facts, whole, parts):
    """Whether parts taken from whole levels leave no basic stock below 0, and nothing of one that can be taken away."""
    left = whole
    for number, times in parts:
        told = fact_levels(basics, facts[number])
        left = [level - times * part for level, part in zip(left, told)]
    return all([level == 0 or (level > 0 and not basic[-1]) for level, basic in zip(left, basics)])


def basic_stocks(manners):
    """The basic stocks of jobs with these manners."""
    found = [MORNING]
    for job, manner in enumerate(manners):
        found.extend([(0, job, begin, end, loose) for begin, end, loose in CHANGES[manner]])
    return found


def levels(basics, aim):
    """What each basic stock has at an aim."""
    one, pairs = aim
    return [first * one + begin * pairs[job][0] + end * pairs[job][1] for first, job, begin, end, _ in basics]


def fact_levels(basics, fact):
    """What each basic stock has at a fact let, or how much more at the first standing of a fact as."""
    if fact[0] == "let":
        return levels(basics, (1, fact[1]))
    return levels(basics, (0, difference(fact[1], fact[2])))


def difference(pairs, others):
    """How much more often each job has begun, and ended, than elsewhere."""
    return tuple([(begun - before, ended - behind) for (begun, ended), (before, behind) in zip(pairs, others)])


def parted(basics, facts, aims):
    """("stock", stock) with one that keeps the facts and is below 0 at all aims, or ("parts", mixture).

    A mixture is told here by the shares of the aims, the weights and the backs, and is right of the aims together.
    """
    lets = [number for number, fact in enumerate(facts) if fact[0] == "let"]
    backs = [number for number, fact in enumerate(facts) if fact[0] == "as"]
    columns = [levels(basics, aim) for aim in aims]
    for number in lets + backs:
        columns.append([-level for level in fact_levels(basics, facts[number])])
    goal = [1] * len(aims) + [0] * len(lets + backs)
    bound = [True] * len(aims + lets) + [False] * len(backs) + [not basic[-1] for basic in basics]
    table = Table(columns, goal, bound)
    to = table.grow()
    if to is None:
        return ("stock", summed(basics, shortened(table.costs()), len(aims[0][1])))
    amounts = shortened(table.amounts(to))
    middle = len(aims)
    end = middle + len(lets)
    return ("parts", (tuple(amounts[:middle]), taken(lets, amounts[middle:end]), taken(backs, amounts[end:])))


def taken(numbers, amounts):
    """The numbers of the facts that are taken, and how often."""
    return tuple([(number, amount) for number, amount in zip(numbers, amounts) if amount != 0])


def summed(basics, amounts, many):
    """The stock of so many jobs that is the sum of these amounts of basic ones."""
    level = 0
    begins = [0] * many
    ends = [0] * many
    for (first, job, begin, end, _), amount in zip(basics, amounts):
        level = level + amount * first
        begins[job] = begins[job] + amount * begin
        ends[job] = ends[job] + amount * end
    return (level, tuple([(begin, end) for begin, end in zip(begins, ends)]))


def shortened(amounts):
    """The smallest integers that stand to each other as these do, of which not all are 0."""
    common = 0
    for amount in amounts:
        common = gcd(common, amount)
    return [amount // common for amount in amounts]


class Table:
    """A table of the simplex method, in whole numbers.

    Each row tells the amount at its side as a sum over all columns: the amount at the head of the column, times the
    row's item there over the divisor. The last row has no side: it tells the goal, which is to be more than 0.
    Amounts have numbers, the first of them those that stand at the heads at first. Bound ones are 0 or more. Of the
    others those at the heads at first can be anything, those at the sides have to be 0. All amounts being 0 is
    always a solution, so each swap keeps what there is, and only tells it by other amounts.
    """

    def __init__(self, columns, goal, bound):
        self.heads = list(range(len(columns)))
        self.sides = list(range(len(columns), len(bound)))
        self.rows = [[column[at] for column in columns] for at in range(len(self.sides))]
        self.rows.append(goal)
        self.divisor = 1
        self.bound = bound

    def grow(self):
        """A column whose amount can grow without end, and the goal with it, or None if the goal is never above 0.

        The smallest numbers are taken, at the heads and at the sides (Bland's rule): so no table comes again.
        """
        self.settle()
        to = self.entering()
        while to is not None:
            at = self.leaving(to)
            if at is None:
                return to
            self.swap(at, to)
            to = self.entering()
        return None

    def settle(self):
        """Bring amounts that can be anything to the sides, and those that have to be 0 to the heads, for good."""
        many = len(self.heads)
        for to in range(many):
            if not self.bound[to]:
                found = [at for at, side in enumerate(self.sides) if side >= many and self.rows[at][to] != 0]
                if len(found) > 0:
                    self.swap(found[0], to)
        for at in range(len(self.sides)):
            if self.sides[at] >= many and not self.bound[self.sides[at]]:
                found = [to for to, head in enumerate(self.heads) if self.bound[head] and self.rows[at][to] != 0]
                if len(found) > 0:
                    self.swap(at, found[0])

    def entering(self):
        """The column of the bound amount with the smallest number with which the goal grows, or None."""
        goal = self.rows[-1]
        found = [(head, to) for to, head in enumerate(self.heads) if self.bound[head] and goal[to] > 0]
        return min(found, default=(None, None))[1]

    def leaving(self, to):
        """The row of the bound amount with the smallest number that falls as the amount of a column grows, or None."""
        found = [(side, at) for at, side in enumerate(self.sides) if self.bound[side] and self.rows[at][to] < 0]
        return min(found, default=(None, None))[1]

    def swap(self, at, to):
        """Let the amounts at the side of a row and at the head of a column change places."""
        chosen = self.rows[at]
        sign = 1 if chosen[to] > 0 else -1
        divisor = sign * chosen[to]
        rows = []
        for row in self.rows:
            factor = sign * row[to]
            changed = [(item * divisor - factor * other) // self.divisor for item, other in zip(row, chosen)]
            changed[to] = factor
            rows.append(changed)
        rows[at] = [-sign * item for item in chosen]
        rows[at][to] = sign * self.divisor
        self.rows = rows
        self.divisor = divisor
        self.heads[to], self.sides[at] = self.sides[at], self.heads[to]

    def amounts(self, to):
        """The amounts that stood at the heads at first, as the amount of a column grows to the divisor alone."""
        found = [0] * len(self.bound)
        found[self.heads[to]] = self.divisor
        for side, row in zip(self.sides, self.rows):
            found[side] = row[to]
        return found[:len(self.heads)]

    def costs(self):
        """How much the goal falls, for each amount that stood at the sides at first, as this amount grows."""
        found = [0] * len(self.bound)
        for head, item in zip(self.heads, self.rows[-1]):
            found[head] = -item
        return found[len(self.heads):]
