"""Planning: which facts to ask one behind the other, until it is settled that two rights are alike or part."""

from listandpage.branches import branches
from listandpage.columns import is_link, may_lack
from listandpage.deciding import claims_on_answers, distinct
from listandpage.facts import first_facts
from listandpage.frames import Frame
from listandpage.paths import Step


class Plan:
    """Facts, and what comes of them.

    leaf: that of a tree, None if a fact is to be asked. asked: the facts that may be asked next;
    without any the rights part by what is known. fact: the one that was chosen; behind: pairs of
    its answers and the plans behind these.
    """

    def __init__(self, facts, leaf, asked):
        self.facts = facts
        self.leaf = leaf
        self.asked = asked
        self.fact = None
        self.behind = []

    def is_parting(self):
        """Whether the rights part by what is known."""
        return self.leaf is None and not self.asked


class Planner:
    """Plans for two rights up to so many rows, which are enough; 0 if none are."""

    def __init__(self, pair, most):
        self.pair = pair
        self.most = most
        self.frame = Frame(pair.schema, pair.notes)

    def look(self, facts):
        """What comes of facts, None for an answer that cannot be."""
        if facts is None:
            return Plan(facts, "clash", [])
        if 0 < self.most <= len(facts.named):
            return Plan(facts, "enough", [])
        told = [root.claim(facts, facts.start, True) for root in self.pair.roots]
        if isinstance(told[0], bool) and told[0] == told[1]:
            return Plan(facts, told[0], [])
        answers = claims_on_answers(facts)
        if False in answers:
            return Plan(facts, "clash", [])
        waiting = [fact for each in told + answers if isinstance(each, tuple) for fact in each]
        return Plan(facts, None, distinct(waiting) if waiting else self.needed_links(facts))

    def needed_links(self, facts):
        """The links of named rows that cannot lack and are not known, those first that need a row of a new table.

        They matter where rows are counted only: otherwise each of them can lead to a row of its own.
        """
        alone = []
        others = []
        if self.most == 0:
            return alone
        for row, table in enumerate(facts.named):
            for place, column in enumerate(self.pair.schema.columns(table)):
                if is_link(column) and not may_lack(column) and (row, place) not in facts.cells:
                    fact = ("cell", Step(table, column[1], place), row)
                    if facts.of_table(column[2]):
                        others.append(fact)
                    else:
                        alone.append(fact)
        return alone + others

    def choose(self, plan):
        """Ask the fact that leaves fewest cases open."""
        least = -1
        for fact in plan.asked:
            behind = [(answer, self.look(facts)) for answer, facts in branches(self.frame, plan.facts, fact)]
            count = sum([self.times(plan, fact, answer) for answer, below in behind if below.leaf is None])
            if least < 0 or count < least:
                least = count
                plan.fact = fact
                plan.behind = behind
            if least < 2:
                return

    def times(self, plan, fact, answer):
        """How many answers of a tree an answer of a plan stands for."""
        if fact[0] == "some" or not isinstance(answer, str):
            return 1
        cell = (fact[1].table, fact[1].column)
        return self.frame.count_alike(cell, answer, plan.facts.used.get(self.frame.group(cell), {}))

    def complete(self):
        """The plans at the beginning, and the facts by which the rights part, None if there are none."""
        first = [self.look(facts) for facts in first_facts(self.pair.table, self.pair.schema.user)]
        waiting = [plan for plan in first if plan.leaf is None]
        while waiting:
            plan = waiting.pop()
            if plan.is_parting():
                return first, plan.facts
            self.choose(plan)
            # The first answers are looked at first, so that new rows come last.
            waiting.extend([below for _, below in plan.behind[::-1] if below.leaf is None])
        return first, None
