"""Promises [1] to [3], [20] over the whole program, and the interface of the document."""

import importlib
import inspect
import json
import os
import pathlib
import subprocess
import sys
import unittest

from tests.helper import Asking, Making, rows_text
from tranchefall.asking import claims_told, days_of, what_if, words_on
from tranchefall.days import begun, day_done, order_now, ran, ran_alone
from tranchefall.debtreader import read_debts
from tranchefall.debtrows import debt_row_of
from tranchefall.dues import by_pool, told_days
from tranchefall.errors import DealError
from tranchefall.falling import fell
from tranchefall.losing import eaten
from tranchefall.outline import order_of, outlined, start_of, steps_of
from tranchefall.parts import asked
from tranchefall.reaching import days_into, days_to, never, states_of, twice_word
from tranchefall.reader import read_deal
from tranchefall.reports import claim_rows, ledger, shown_rows
from tranchefall.rings import lend_ring
from tranchefall.rows import row_of
from tranchefall.sharing import shared
from tranchefall.showing import shown_deal
from tranchefall.whatif import added_losses, compared
from tranchefall.words import is_name, number_in

ROOT = pathlib.Path(__file__).resolve().parent.parent

# File, function and the names of its arguments, as the document tells them.
INTERFACE = """
words is_name word
words number_in word
rows row_of row place
reader read_deal text
showing shown_deal deal
debtrows debt_row_of row place
debtreader read_debts text
dues told_days debts events many
dues by_pool debts days pools
sharing shared needs cash
parts asked parts came
falling fell pool order book came loans
losing eaten pool book loss
days begun deal
days order_now pool book
days day_done deal state incomes losses
days ran deal days
days ran_alone pool days
outline start_of pool
outline outlined pool book
outline order_of pool outline
outline steps_of pool outline
reaching states_of pool
reaching never pool
reaching days_into pool outline
reaching days_to pool order place
reaching twice_word pool
rings lend_ring deal
reports claim_rows deal days
reports shown_rows rows
reports ledger deal days
whatif added_losses deal days rows
whatif compared deal days rows
asking days_of deal_text debts_text many
asking claims_told deal_text debts_text many
asking what_if deal_text debts_text many rows
asking words_on deal_text
""".strip().split("\n")

DEAL = rows_text(
    "pool p", "claim a 100 10", "claim b 20 5", "claim c 30 6", "claim d 9 2", "pot v 8", "pot w 3", "eat d b",
    "order one", "part a 2", "pay a", "fill v", "share b c", "repay b", "lend q 5", "back r", "rest d",
    "order two", "part c 8", "part d 3", "pay c", "fill w", "rest c",
    "look a 2 two", "look b 1 one", "guard v a",
    "pool q", "claim e 3 1", "pot x 9", "order one", "pay e", "back p", "lend r 7", "fill x", "rest e",
    "pool r", "claim f 40 4", "eat f", "order one", "lend p 6", "pay f", "rest f",
)
DEBTS = rows_text(
    "debt ann p", "on 1 30", "on 2 10", "on 3 50", "debt bob q", "on 2 4", "on 5 60", "debt cid p", "on 1 3", "on 4 25",
    "debt dan r", "on 1 99", "on 6 5", "quit cid 3", "late ann 2 3", "early bob 4", "quit dan 5",
)


def questions(deal, debts, events, days):
    """Pairs of a function and its arguments, each function of the interface once at least."""
    texts = (shown_deal(deal), DEBTS)
    losses = [(1, deal[0][0], 5), (2, deal[-1][0], 6), (0, "x", 1), (1, deal[0][0], 7)]
    told = told_days(debts, events, 9)
    told_states = [state for state, _ in ran(deal, days)]
    yield is_name, ("abc",)
    yield number_in, ("17",)
    yield row_of, ("share a b", 4)
    yield read_deal, texts[:1]
    yield shown_deal, (deal,)
    yield debt_row_of, ("on 4 9", 3)
    yield read_debts, texts[1:]
    yield told_days, (debts, events, 9)
    yield by_pool, (debts, told[0], [pool[0] for pool in deal])
    yield shared, ([3, 0, 5], 6)
    yield begun, (deal,)
    yield ran, (deal, days)
    yield lend_ring, (deal,)
    yield claim_rows, (deal, days)
    yield shown_rows, (claim_rows(deal, days),)
    yield ledger, (deal, days)
    yield added_losses, (deal, days, losses)
    yield compared, (deal, days, losses)
    yield days_of, (*texts, 8)
    yield claims_told, (*texts, 8)
    yield what_if, (*texts, 8, losses)
    yield words_on, texts[:1]
    for state in [begun(deal)] + told_states:
        yield day_done, (deal, state, [9] * len(deal), [2] * len(deal))
        for pool, book in zip(deal, state[0]):
            yield order_now, (pool, book)
            yield eaten, (pool, book, 11)
            yield outlined, (pool, book)
            for order in pool[4]:
                yield fell, (pool, order[0], book, 23, state[1])
    for pool in deal:
        yield asked, (pool[4][0][1], 17)
        yield ran_alone, (pool, [(30, 0), (0, 9), (50, 1)])
        yield start_of, (pool,)
        yield states_of, (pool,)
        yield never, (pool,)
        yield twice_word, (pool,)
        for outline in states_of(pool)[:5]:
            yield order_of, (pool, outline)
            yield steps_of, (pool, outline)
            yield days_into, (pool, outline)
        for order, place in [(order[0], place) for order in pool[4] for place in range(len(order[1]))]:
            yield days_to, (pool, order, place)
        yield days_to, (pool, pool[4][0][0], len(pool[4][0][1]) + len(pool[4][0][2]) - 1)


def all_questions():
    debts, events = read_debts(DEBTS)
    deal = read_deal(DEAL)
    yield from questions(deal, debts, events, days_of(DEAL, DEBTS, 7))
    for seed in range(6):
        making = Making(seed)
        made = making.deal()
        yield from questions(made, debts, events, making.days(made, 5))


class Interface(unittest.TestCase):
    def test_names_and_arguments(self):
        self.assertEqual(len(INTERFACE), 37)
        for row in INTERFACE:
            file, name, *arguments = row.split()
            function = getattr(importlib.import_module("tranchefall." + file), name)
            self.assertEqual(function.__module__, "tranchefall." + file)
            parameters = inspect.signature(function).parameters.values()
            self.assertEqual([one.name for one in parameters], arguments)
            self.assertTrue(all(one.default is inspect.Parameter.empty for one in parameters))

    def test_all_of_them_are_asked_here(self):
        names = {function.__name__ for function, _ in all_questions()}
        self.assertEqual(names, {row.split()[1] for row in INTERFACE})


class Own(Asking, unittest.TestCase):
    def test_what_is_told_is_the_askers_own(self):
        for function, arguments in all_questions():
            with self.subTest(function=function.__name__):
                self.assert_own(function, *arguments)

    def test_questions_do_not_change_one_another(self):
        first = [function(*arguments) for function, arguments in all_questions()]
        second = [function(*arguments) for function, arguments in all_questions()]
        self.assertEqual(first, second)

    def test_the_same_in_another_process(self):
        code = (
            "import json\n"
            "from tests.test_whole import all_questions\n"
            "print(json.dumps([function(*arguments) for function, arguments in all_questions()]))"
        )
        here = json.loads(json.dumps([function(*arguments) for function, arguments in all_questions()]))
        for seed in ("0", "1", "77"):
            environment = dict(os.environ, PYTHONHASHSEED=seed, PYTHONPATH=str(ROOT))
            told = subprocess.run([sys.executable, "-c", code], env=environment, cwd=ROOT, capture_output=True, check=True)
            self.assertEqual(json.loads(told.stdout), here)


class Refusals(unittest.TestCase):
    def test_every_wrong_text_is_refused_by_a_class_of_its_own(self):
        """Rows that are left out, doubled or put elsewhere: whatever comes is a deal or a refusal with a row's number."""
        rows = DEAL.split("\n")
        changed = []
        for at in range(len(rows)):
            changed.append(rows[:at] + rows[at + 1:])
            changed.append(rows[:at] + [rows[at]] + rows[at:])
            for to in range(0, len(rows), 5):
                moved = rows[:at] + rows[at + 1:]
                changed.append(moved[:to] + [rows[at]] + moved[to:])
        seen = set()
        for one in changed:
            try:
                deal = read_deal(rows_text(*one))
            except DealError as error:
                seen.add(type(error).__name__)
                self.assertEqual(type(error).__bases__, (DealError,))
                self.assertTrue(1 <= error.place <= len(one))
            else:
                self.assertEqual(shown_deal(deal), rows_text(*one))
        self.assertEqual(seen, {"Misplaced", "Unfinished", "Twice", "NoName"})


class Coins(unittest.TestCase):
    def test_all_coins_of_the_debts_are_found_again(self):
        debts, events = read_debts(DEBTS)
        for many in range(0, 9):
            days = days_of(DEAL, DEBTS, many)
            came, paid, kept, waiting, lost = ledger(read_deal(DEAL), days)
            self.assertEqual(came, paid + kept + waiting)
            told, left = told_days(debts, events, many)
            self.assertEqual(came, sum(coins for paid_now, _ in told for _, coins in paid_now))
            planned = sum(coins for _, _, plan in debts for _, coins in plan)
            gone = sum(coins for _, lost_now in told for _, coins in lost_now)
            self.assertEqual(planned, came + gone + sum(coins for _, coins in left))
            self.assertEqual(gone, sum(row[8] for row in claim_rows(read_deal(DEAL), days)) + lost)


if __name__ == "__main__":
    unittest.main()
