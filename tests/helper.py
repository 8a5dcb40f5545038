"""What several files of tests use: asking for refusals, for lists of one's own, and deals made by a seed."""

import copy
import random


def rows_text(*rows):
    return "\n".join(rows)


def lists_in(thing):
    """All lists in a thing made of lists, tuples and dicts, each as often as it stands there."""
    found = []
    left = [thing]
    while left:
        one = left.pop()
        if isinstance(one, list):
            found.append(one)
        if isinstance(one, (list, tuple)):
            left.extend(one)
    return found


def spoil(thing):
    for one in lists_in(thing):
        one.clear()
        one.append("spoilt")


class Asking:
    """To be mixed with a TestCase."""

    def assert_refused(self, refusal, place, function, *arguments):
        with self.assertRaises(refusal) as caught:
            function(*arguments)
        self.assertIs(type(caught.exception), refusal)
        self.assertEqual(caught.exception.place, place)
        self.assertIs(type(caught.exception.place), int)

    def assert_own(self, function, *arguments):
        """Nothing handed in is changed or told on, no list is told twice, and the answer stays the same."""
        before = copy.deepcopy(arguments)
        first = function(*arguments)
        self.assertEqual(arguments, before)
        kept = copy.deepcopy(first)
        second = function(*arguments)
        self.assertEqual(second, kept)
        # All of them are held here, so that no two of them can have the same id by chance.
        lists = lists_in(first) + lists_in(second)
        given = {id(one) for one in lists_in(arguments)}
        ids = [id(one) for one in lists]
        self.assertEqual(len(ids), len(set(ids)), "a list is told twice")
        self.assertFalse(given & set(ids), "a list that was handed in is told")
        spoil(first)
        self.assertEqual(arguments, before)
        self.assertEqual(second, kept)
        self.assertEqual(function(*arguments), kept)
        return second

    def assert_plain(self, thing):
        """Whole numbers, texts and what holds them; True and False are no numbers."""
        left = [thing]
        while left:
            one = left.pop()
            if isinstance(one, (list, tuple)):
                left.extend(one)
            else:
                self.assertIn(type(one), (int, str))


class Making:
    """Deals, debts and days made by a seed."""

    def __init__(self, seed):
        self.random = random.Random(seed)

    def some(self, things, least, most):
        return self.random.sample(list(things), self.random.randint(least, min(most, len(things))))

    def coins(self, most):
        return self.random.choice((1, self.random.randint(1, most), self.random.randint(1, min(most, 9))))

    def rule(self, claims, pots, others, free):
        kinds = ["pay"] + (["repay"] if free else []) + (["share"] if len(free) > 1 else [])
        kinds += (["fill"] if pots else []) + (["lend", "back"] if others else [])
        kind = self.random.choice(kinds)
        if kind == "share":
            return ("share", tuple(self.some(free, 2, 6)))
        if kind == "fill":
            return ("fill", self.random.choice(pots))
        if kind == "lend":
            return ("lend", self.random.choice(others), self.coins(40))
        if kind == "back":
            return ("back", self.random.choice(others))
        return (kind, self.random.choice(claims if kind == "pay" else free))

    def order(self, name, claims, pots, others, free):
        parts = []
        if self.random.random() < 0.5:
            most = self.random.choice((3, 10))
            parts = [(claim, self.random.randint(1, most)) for claim in self.some(claims, 1, 3)]
        rules = [self.rule(claims, pots, others, free) for _ in range(self.random.randint(0, 5))]
        return (name, parts, rules + [("rest", self.random.choice(claims))])

    def pool(self, name, others, most_claims=4, most_pots=2):
        claims = [f"{name}c{letter}" for letter in "abcdef"[: self.random.randint(1, most_claims)]]
        pots = [f"{name}p{letter}" for letter in "abc"[: self.random.randint(0, most_pots)]]
        guarded = self.some(claims, 0, 2) if pots else []
        free = [claim for claim in claims if claim not in guarded]
        orders = [f"o{letter}" for letter in "abcde"[: self.random.randint(1, 3)]]
        looks = []
        for order in orders[1:]:
            looks.append((self.random.choice(claims), self.random.randint(1, 3), order))
        self.random.shuffle(looks)
        return (
            name,
            [(claim, self.coins(60), self.coins(12)) for claim in claims],
            [(pot, self.coins(20)) for pot in pots],
            self.some(claims, 0, 4),
            [self.order(order, claims, pots, others, free) for order in orders],
            looks,
            [(self.random.choice(pots), claim) for claim in guarded],
        )

    def deal(self, most_pools=3):
        names = ["q" + letter for letter in "abcdef"[: self.random.randint(1, most_pools)]]
        return [self.pool(name, [other for other in names if other != name]) for name in names]

    def days(self, deal, many):
        return [([self.income() for _ in deal], [self.loss() for _ in deal]) for _ in range(many)]

    def income(self):
        return self.random.choice((0, 1, self.random.randint(0, 15), self.random.randint(0, 60), self.random.randint(0, 300)))

    def loss(self):
        return self.random.choice((0, 0, 0, 0, self.random.randint(0, 8), self.random.randint(0, 70)))
