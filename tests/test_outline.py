"""Promises [2], [21] to [23]: outlines of books and the steps between them."""

import unittest

from tests.helper import Asking, Making, rows_text
from tranchefall.days import begun, order_now, ran, ran_alone
from tranchefall.outline import order_of, outlined, start_of, steps_of
from tranchefall.reader import read_deal

T, F = True, False

POOL = read_deal(rows_text(
    "pool p", "claim a 100 10", "claim b 50 5", "claim c 9 1", "pot v 20", "pot w 7", "eat c b",
    "order one", "part a 3", "pay a", "share b c", "fill v", "rest b",
    "order two", "repay b", "pay b", "repay b", "fill w", "fill w", "rest a",
    "order three", "part a 5", "part b 5", "fill v", "pay a", "rest a",
    "look b 2 two", "look a 1 three", "look b 4 one", "guard v a",
))[0]


def pool_of(*rules, eat="", looks=(), guards=(), parts=(), claims="abc", pots="vw"):
    return ("p", [(claim, 10, 1) for claim in claims], [(pot, 5) for pot in pots], list(eat),
            [("o", list(parts), list(rules) + [("rest", "a")])], list(looks), list(guards))


def steps_slowly(pool, outline):
    """For each number of kills and each place that a cut might have, all is worked out from the beginning."""
    claims = [claim[0] for claim in pool[1]]
    pots = [pot[0] for pot in pool[2]]
    runs, alive_ahead, full_ahead = outline
    order = pool[4][0]
    for claim, days, name in reversed(pool[5]):
        if dict(runs)[claim] >= days:
            order = [one for one in pool[4] if one[0] == name][0]
    rules = order[2]
    steps = []
    mortal = [claim for claim in pool[3] if alive_ahead[claims.index(claim)]]
    for kills in range(len(mortal) + 1):
        alive = {claim for claim, is_so in zip(claims, alive_ahead) if is_so} - set(mortal[:kills])

        def names(rule):
            return set(rule[1]) if rule[0] == "share" else {rule[1]}

        def needs(at):
            kind = rules[at][0]
            ahead = [rules[one] for one in range(at) if needs(one)]
            if kind in ("pay", "share"):
                served = {claim for rule in ahead if rule[0] in ("pay", "share", "repay") for claim in names(rule)}
                return bool((names(rules[at]) & alive) - served)
            if kind == "repay":
                return rules[at][1] in alive and rules[at] not in ahead
            if kind == "fill":
                return not full_ahead[pots.index(rules[at][1])] and rules[at] not in ahead
            return False

        cuts = [at for at in range(len(rules)) if needs(at)] + [len(rules)]
        if sum(tenths for _, tenths in order[1]) >= 10:
            cuts = cuts[:1]
        for cut in cuts:
            filled = [rules[at] for at in range(cut) if needs(at)]
            served = {claim for rule in filled if rule[0] in ("pay", "share", "repay") for claim in names(rule)}
            missed = alive - served
            behind_runs = []
            for claim, days in runs:
                top = max(look[1] for look in pool[5] if look[0] == claim)
                behind_runs.append((claim, min(days + 1, top) if claim in missed else 0))
            behind_alive = [claim in alive and ("repay", claim) not in filled for claim in claims]
            behind_full = []
            for pot, was in zip(pots, full_ahead):
                drawn = any(guard == pot and claim in missed for guard, claim in pool[6])
                behind_full.append((was or ("fill", pot) in filled) and not drawn)
            steps.append((kills, cut, (tuple(behind_runs), tuple(behind_alive), tuple(behind_full))))
    return steps


class Outlines(Asking, unittest.TestCase):
    def book(self, sizes=(100, 50, 9), runs=(0, 0, 0), levels=(0, 0)):
        return (list(zip("abc", sizes)), list(zip("abc", (1, 2, 3))), list(zip("abc", runs)), list(zip("vw", levels)), 5)

    def test_start(self):
        self.assertEqual(self.assert_own(start_of, POOL), ((("b", 0), ("a", 0)), (T, T, T), (F, F)))
        self.assertEqual(start_of(pool_of(claims="a", pots="")), ((), (T,), ()))

    def test_start_is_the_outline_of_the_begun_book(self):
        for seed in range(50):
            pool = Making(seed).pool("p", [])
            self.assertEqual(outlined(pool, begun([pool])[0][0]), start_of(pool))

    def test_runs_are_cut(self):
        for days, cut in ((0, 0), (1, 1), (3, 3), (4, 4), (5, 4), (10 ** 30, 4)):
            told = self.assert_own(outlined, POOL, self.book(runs=(0, days, 8)))
            self.assertEqual(told, ((("b", cut), ("a", 0)), (T, T, T), (F, F)))
        self.assertEqual(outlined(POOL, self.book(runs=(7, 3, 1)))[0], (("b", 3), ("a", 1)))

    def test_alive_and_full(self):
        self.assertEqual(outlined(POOL, self.book((0, 1, 50), levels=(20, 6)))[1:], ((F, T, T), (T, F)))
        self.assertEqual(outlined(POOL, self.book((1, 0, 0), levels=(19, 7)))[1:], ((T, F, F), (F, T)))

    def test_kinds(self):
        told = outlined(POOL, self.book(levels=(20, 0)))
        self.assertEqual([type(one) for one in told], [tuple] * 3)
        self.assertEqual({type(one) for one in told[0]}, {tuple})
        self.assertEqual({type(one) for one in told[1] + told[2]}, {bool})
        for outline in [start_of(POOL)] + [step[2] for step in steps_of(POOL, told)]:
            self.assertEqual({type(one) for one in outline[1] + outline[2]}, {bool})
            self.assertEqual([type(one) for one in outline], [tuple] * 3)

    def test_order_of(self):
        for days_b, days_a, order in ((0, 0, "one"), (1, 0, "one"), (2, 0, "two"), (4, 0, "two"), (0, 1, "three"),
                                      (1, 1, "three"), (2, 1, "two")):
            outline = ((("b", days_b), ("a", days_a)), (T, T, T), (F, F))
            self.assertEqual(self.assert_own(order_of, POOL, outline), order)
        self.assertEqual(order_of(pool_of(), ((), (T, T, T), (F, F))), "o")

    def test_order_of_is_order_now(self):
        for seed in range(100):
            pool = Making(seed).pool("p", [])
            chance = Making(seed).random
            for _ in range(10):
                book = begun([pool])[0][0]
                book = (*book[:2], [(claim, chance.randint(0, 4)) for claim, _ in book[2]], *book[3:])
                self.assertEqual(order_of(pool, outlined(pool, book)), order_now(pool, book))


class Steps(Asking, unittest.TestCase):
    START = ((), (T, T, T), (F, F))

    def assert_steps(self, pool, outline, expected):
        told = self.assert_own(steps_of, pool, outline)
        self.assertEqual(told, expected)
        self.assertEqual(told, steps_slowly(pool, outline))
        self.assertEqual({type(one) for one in told}, {tuple})

    def test_no_rules(self):
        self.assert_steps(pool_of(), self.START, [(0, 1, self.START)])

    def test_lends_backs_and_rests_are_not_asked(self):
        self.assert_steps(pool_of(("lend", "q", 5), ("back", "q")), self.START, [(0, 3, self.START)])
        pool = pool_of(("lend", "q", 5), ("fill", "v"), ("back", "q"))
        self.assert_steps(pool, self.START, [(0, 1, self.START), (0, 4, ((), (T, T, T), (T, F)))])

    def test_pay(self):
        looks = [("a", 2, "o"), ("b", 3, "o")]
        ahead = ((("a", 1), ("b", 1)), (T, T, T), (F, F))
        self.assert_steps(pool_of(("pay", "a"), looks=looks), ahead, [
            (0, 0, ((("a", 2), ("b", 2)), (T, T, T), (F, F))), (0, 2, ((("a", 0), ("b", 2)), (T, T, T), (F, F)))])
        self.assert_steps(pool_of(("pay", "a"), ("pay", "a"), ("pay", "b"), looks=looks), ahead, [
            (0, 0, ((("a", 2), ("b", 2)), (T, T, T), (F, F))), (0, 2, ((("a", 0), ("b", 2)), (T, T, T), (F, F))),
            (0, 4, ((("a", 0), ("b", 0)), (T, T, T), (F, F)))])

    def test_a_claim_without_size_needs_nothing_and_is_not_missed(self):
        looks = [("a", 2, "o")]
        self.assert_steps(pool_of(("pay", "a"), ("repay", "a"), looks=looks), ((("a", 1),), (F, T, T), (F, F)), [
            (0, 3, ((("a", 0),), (F, T, T), (F, F)))])

    def test_share(self):
        looks = [("a", 9, "o"), ("b", 9, "o")]
        ahead = ((("a", 4), ("b", 4)), (T, T, T), (F, F))
        missed = ((("a", 5), ("b", 5)), (T, T, T), (F, F))
        served = ((("a", 0), ("b", 0)), (T, T, T), (F, F))
        self.assert_steps(pool_of(("share", ("a", "b")), looks=looks), ahead, [(0, 0, missed), (0, 2, served)])
        self.assert_steps(pool_of(("pay", "a"), ("share", ("a", "b")), ("share", ("b", "a")), looks=looks), ahead, [
            (0, 0, missed), (0, 1, ((("a", 0), ("b", 5)), (T, T, T), (F, F))), (0, 4, served)])
        ahead = ((("a", 4), ("b", 4)), (T, F, T), (F, F))
        self.assert_steps(pool_of(("share", ("b", "a")), looks=looks), ahead, [
            (0, 0, ((("a", 5), ("b", 0)), (T, F, T), (F, F))), (0, 2, ((("a", 0), ("b", 0)), (T, F, T), (F, F)))])
        ahead = ((("a", 4), ("b", 4)), (F, F, T), (F, F))
        self.assert_steps(pool_of(("share", ("b", "a")), looks=looks), ahead, [
            (0, 2, ((("a", 0), ("b", 0)), (F, F, T), (F, F)))])

    def test_repay(self):
        looks = [("a", 9, "o")]
        ahead = ((("a", 4),), (T, T, T), (F, F))
        self.assert_steps(pool_of(("pay", "a"), ("repay", "a"), ("repay", "a"), ("pay", "a"), looks=looks), ahead, [
            (0, 0, ((("a", 5),), (T, T, T), (F, F))), (0, 1, ((("a", 0),), (T, T, T), (F, F))),
            (0, 5, ((("a", 0),), (F, T, T), (F, F)))])
        self.assert_steps(pool_of(("repay", "a"), ("pay", "a"), ("share", ("a", "b")), looks=looks), ahead, [
            (0, 0, ((("a", 5),), (T, T, T), (F, F))), (0, 2, ((("a", 0),), (F, T, T), (F, F))),
            (0, 4, ((("a", 0),), (F, T, T), (F, F)))])

    def test_fill(self):
        self.assert_steps(pool_of(("fill", "w"), ("fill", "v"), ("fill", "w")), self.START, [
            (0, 0, self.START), (0, 1, ((), (T, T, T), (F, T))), (0, 4, ((), (T, T, T), (T, T)))])
        self.assert_steps(pool_of(("fill", "w"), ("fill", "v")), ((), (T, T, T), (F, T)), [
            (0, 1, ((), (T, T, T), (F, T))), (0, 3, ((), (T, T, T), (T, T)))])

    def test_guards(self):
        pool = pool_of(("fill", "v"), ("pay", "a"), ("fill", "w"), guards=[("v", "a")])
        self.assert_steps(pool, self.START, [
            (0, 0, self.START), (0, 1, self.START), (0, 2, ((), (T, T, T), (T, F))), (0, 4, ((), (T, T, T), (T, T)))])
        self.assert_steps(pool, ((), (T, T, T), (T, T)), [
            (0, 1, ((), (T, T, T), (F, T))), (0, 4, ((), (T, T, T), (T, T)))])
        self.assert_steps(pool, ((), (F, T, T), (T, F)), [
            (0, 2, ((), (F, T, T), (T, F))), (0, 4, ((), (F, T, T), (T, T)))])

    def test_guards_of_one_pot(self):
        pool = pool_of(("pay", "a"), guards=[("v", "a"), ("v", "b")])
        self.assert_steps(pool, ((), (T, T, T), (T, T)), [
            (0, 0, ((), (T, T, T), (F, T))), (0, 2, ((), (T, T, T), (F, T)))])
        self.assert_steps(pool, ((), (T, F, T), (T, T)), [
            (0, 0, ((), (T, F, T), (F, T))), (0, 2, ((), (T, F, T), (T, T)))])

    def test_kills(self):
        self.assert_steps(pool_of(eat="ca"), self.START, [
            (0, 1, self.START), (1, 1, ((), (T, T, F), (F, F))), (2, 1, ((), (F, T, F), (F, F)))])
        self.assert_steps(pool_of(eat="cab"), ((), (F, T, T), (F, F)), [
            (0, 1, ((), (F, T, T), (F, F))), (1, 1, ((), (F, T, F), (F, F))), (2, 1, ((), (F, F, F), (F, F)))])

    def test_a_killed_claim_needs_nothing_is_not_missed_and_draws_nothing(self):
        pool = pool_of(("pay", "a"), eat="a", looks=[("a", 9, "o")], guards=[("v", "a")])
        self.assert_steps(pool, ((("a", 4),), (T, T, T), (T, F)), [
            (0, 0, ((("a", 5),), (T, T, T), (F, F))), (0, 2, ((("a", 0),), (T, T, T), (T, F))),
            (1, 2, ((("a", 0),), (F, T, T), (T, F)))])

    def test_parts_of_ten_tenths_and_more(self):
        for parts in ([("a", 10)], [("a", 5), ("b", 5)], [("a", 9), ("b", 9)]):
            pool = pool_of(("lend", "q", 1), ("pay", "a"), ("fill", "v"), parts=parts, eat="a")
            self.assert_steps(pool, self.START, [(0, 1, self.START), (1, 2, ((), (F, T, T), (F, F)))])
            self.assert_steps(pool, ((), (T, T, T), (T, F)), [
                (0, 1, ((), (T, T, T), (T, F))), (1, 4, ((), (F, T, T), (T, F)))])
            self.assert_steps(pool, ((), (F, T, T), (T, T)), [(0, 4, ((), (F, T, T), (T, T)))])
        pool = pool_of(("pay", "a"), ("fill", "v"), parts=[("a", 4), ("b", 5)])
        self.assert_steps(pool, self.START, [(0, 0, self.START), (0, 1, self.START), (0, 3, ((), (T, T, T), (T, F)))])

    def test_the_order_goes_by_the_days_ahead(self):
        ahead = ((("b", 1), ("a", 0)), (T, T, T), (F, F))
        self.assertEqual([step[:2] for step in steps_of(POOL, ahead)],
                         [(0, 0), (0, 1), (0, 2), (0, 4), (1, 0), (1, 1), (1, 2), (1, 4), (2, 0), (2, 2), (2, 4)])
        ahead = ((("b", 2), ("a", 1)), (T, T, T), (F, F))
        self.assertEqual([step[:2] for step in steps_of(POOL, ahead)],
                         [(0, 0), (0, 3), (0, 6), (1, 0), (1, 3), (1, 6), (2, 3), (2, 6)])
        ahead = ((("b", 0), ("a", 1)), (T, T, T), (T, F))
        self.assertEqual([step[:2] for step in steps_of(POOL, ahead)], [(0, 1), (1, 1), (2, 1)])

    def test_made_pools(self):
        for seed in range(300):
            making = Making(seed)
            pool = making.pool("p", ["q"])
            chance = making.random
            for _ in range(8):
                runs = tuple((claim, chance.randint(0, max(look[1] for look in pool[5] if look[0] == claim)))
                             for claim in dict.fromkeys(look[0] for look in pool[5]))
                outline = (runs, tuple(chance.random() < 0.8 for _ in pool[1]), tuple(chance.random() < 0.5 for _ in pool[2]))
                told = self.assert_own(steps_of, pool, outline)
                self.assertEqual(told, steps_slowly(pool, outline))
                self.assertEqual([step[:2] for step in told], sorted({step[:2] for step in told}))


class DaysGoBySteps(Asking, unittest.TestCase):
    def assert_goes(self, pool, ahead, behind):
        outlines = [step[2] for step in steps_of(pool, outlined(pool, ahead))]
        self.assertIn(outlined(pool, behind), outlines)

    def test_in_deals(self):
        for seed in range(250):
            making = Making(seed)
            deal = making.deal()
            books = begun(deal)[0]
            for (behind, _, _), _ in ran(deal, making.days(deal, 12)):
                for pool, book, after in zip(deal, books, behind):
                    self.assert_goes(pool, book, after)
                books = behind

    def test_alone(self):
        for seed in range(250):
            making = Making(seed)
            pool = making.pool("p", ["q", "r"])
            book = begun([pool])[0][0]
            for after, _, _ in ran_alone(pool, [(making.income(), making.loss()) for _ in range(15)]):
                self.assert_goes(pool, book, after)
                book = after


if __name__ == "__main__":
    unittest.main()
