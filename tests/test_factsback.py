"""[10.1] to [10.5]: facts, the glasses that fit them, and the facts that tell glasses back."""

import unittest
from itertools import combinations
from random import Random

from helpers import (
    NO_SEQUENCES, NO_WHOLES, check_result, drawn_glasses, error_of, every_glasses, fits, some_facts)
from truealarms.errors import BadFact, BadLot, BadStands, NoneFits, TooMany
from truealarms.factsback import (
    Misfit, check_facts, coarsest_glasses, count_fitting, finest_glasses, is_fitting, misfit_of, next_ask,
    shows_surely, telling_facts)
from truealarms.families import made_glasses, needed_members
from truealarms.glasses import Glasses

FACTS = ((2, 6), (1, 7))


# All of these take the stands, the facts, and what stands behind them here.
CALLS = ((misfit_of,), (finest_glasses,), (coarsest_glasses,), (count_fitting,), (next_ask,), (shows_surely, 1))
BUILDERS = ((finest_glasses,), (coarsest_glasses,), (next_ask,), (shows_surely, 1))


class Checks(unittest.TestCase):
    def test_facts_as_lists_and_tuples(self):
        for facts in ([], [(2, 6), (1, 7)], ([2, 6], [1, 7]), ((2, 6), [1, 7])):
            checked = check_facts(3, facts)
            self.assertEqual((type(checked), checked), (tuple, tuple([tuple(fact) for fact in facts])))
            self.assertTrue(all(type(fact) is tuple for fact in checked))
        self.assertEqual(check_facts(facts=[[2, 6]], stands=3), ((2, 6),))
        self.assertEqual(check_facts(3, [(1, 0), (1, 0)]), ((1, 0), (1, 0)))

    def test_stands_come_first(self):
        for stands in NO_WHOLES + (0, 7):
            for facts in ([], None, [(64, 64)]):
                self.assertEqual(error_of(check_facts, stands, facts), (BadStands, ()), stands)
                for call, *rest in CALLS:
                    self.assertEqual(error_of(call, stands, facts, *rest), (BadStands, ()), stands)

    def check_wrong(self, call):
        for facts in NO_SEQUENCES + ([(1, 7)] * 65, ((1, 7),) * 65, [None] * 65):
            self.assertEqual(error_of(call, facts), (BadFact, (None,)), facts)
        self.assertIsNone(error_of(call, [(1, 7)] * 64))
        wrongs = list(NO_SEQUENCES) + [(), (1,), (1, 7, 7), [1], "17"]
        wrongs += [(lot, 7) for lot in NO_WHOLES + (8,)] + [[7, lot] for lot in NO_WHOLES + (8,)]
        for wrong in wrongs:
            for place in (0, 1, 2, 63):
                facts = [(1, 7)] * place + [wrong, None]
                self.assertEqual(error_of(call, facts[:64]), (BadFact, (place,)), wrong)

    def test_each_place(self):
        self.check_wrong(lambda facts: check_facts(3, facts))
        self.check_wrong(lambda facts: is_fitting(made_glasses(3, []), facts))
        for call, *rest in CALLS:
            self.check_wrong(lambda facts: call(3, facts, *rest))
        self.assertEqual(error_of(shows_surely, 3, [(1, 8)], 8), (BadFact, (0,)))

    def test_given_facts_stay(self):
        facts = [[2, 6], [1, 7]]
        for call, *rest in CALLS:
            call(3, facts, *rest)
        self.assertEqual(facts, [[2, 6], [1, 7]])

    def test_the_result(self):
        check_result(self, Misfit, ["place", "other"])


class Fitting(unittest.TestCase):
    def test_the_example(self):
        self.assertEqual(finest_glasses(3, FACTS).members, (0, 4, 6, 7))
        self.assertEqual(coarsest_glasses(3, FACTS).members, (6, 7))
        self.assertEqual((count_fitting(3, FACTS), next_ask(3, FACTS)), (4, 0))
        self.assertEqual((shows_surely(3, FACTS, 3), shows_surely(3, FACTS, 4)), (7, None))
        told = ((0, 0), (1, 7), (2, 6), (4, 4))
        self.assertEqual(telling_facts(Glasses(3, (0, 4, 6, 7))), told)
        self.assertEqual(telling_facts(glasses=Glasses(3, (0, 4, 6, 7))), told)

    def test_fitting_by_the_stands_of_the_glasses(self):
        for stands in (1, 2, 3):
            for glasses in every_glasses(stands):
                for facts in some_facts(stands, 25):
                    self.assertIs(is_fitting(glasses, facts), fits(glasses, facts))
        self.assertEqual(error_of(is_fitting, made_glasses(2, []), [(1, 4)]), (BadFact, (0,)))
        self.assertIs(is_fitting(made_glasses(3, []), [[1, 7]]), True)
        self.assertIs(is_fitting(facts=[[1, 3]], glasses=made_glasses(3, [])), False)

    def test_the_first_couple(self):
        self.assertIsNone(misfit_of(3, []))
        for facts, couple in (
                ([(3, 1)], (0, 0)), ([(1, 1), (3, 1)], (1, 1)), ([(1, 3), (1, 5)], (0, 1)),
                ([(1, 7), (1, 3)], (1, 0)), ([(0, 3), (1, 7), (2, 3)], (0, 1)), ([(4, 4), (1, 3), (2, 7)], (1, 2)),
                ([(3, 1), (1, 7)], (0, 0)), ([(1, 1), (0, 4), (2, 0)], (0, 1))):
            misfit = misfit_of(facts=facts, stands=3)
            self.assertEqual((type(misfit), misfit.place, misfit.other), (Misfit,) + couple, facts)

    def test_the_first_couple_against_the_document(self):
        found = set()
        for stands in (1, 2, 3, 4, 6):
            for facts in some_facts(stands, 150):
                couples = [(place, other) for place in range(len(facts)) for other in range(len(facts))
                           if self.is_misfit(facts[place], facts[other], place == other)]
                misfit = misfit_of(stands, facts)
                self.assertEqual(couples[:1], [] if misfit is None else [(misfit.place, misfit.other)])
                found.add(couples[0] if couples else None)
        self.assertGreater(len(found), 8)

    def is_misfit(self, fact, other, same):
        if same:
            return fact[0] & ~fact[1] != 0
        return other[0] & ~fact[1] == 0 and other[1] & ~fact[1] != 0

    def test_none_fits_with_its_indexes(self):
        for stands in (1, 2, 3, 4, 6):
            for facts in some_facts(stands, 100):
                misfit = misfit_of(stands, facts)
                due = None if misfit is None else (NoneFits, (misfit.place, misfit.other))
                for call, *rest in BUILDERS:
                    self.assertEqual(error_of(call, stands, facts, *rest), due)

    def test_against_all_glasses(self):
        counts = set()
        for stands in (1, 2, 3):
            families = every_glasses(stands)
            for facts in some_facts(stands, 200):
                fitting = [glasses for glasses in families if fits(glasses, facts)]
                self.assertEqual(count_fitting(stands, facts), len(fitting))
                self.assertEqual(misfit_of(stands, facts) is None, fitting != [])
                if fitting:
                    self.check_fitting(stands, facts, families, fitting)
                counts.add(len(fitting))
        self.assertGreater(len(counts), 12)

    def check_fitting(self, stands, facts, families, fitting):
        finest, coarsest = finest_glasses(stands, facts), coarsest_glasses(stands, facts)
        self.assertTrue(finest in fitting and coarsest in fitting)
        for glasses in families:
            members = set(glasses.members)
            self.assertEqual(glasses in fitting, set(coarsest.members) <= members <= set(finest.members))
        ask = next_ask(stands, facts)
        unlike = [lot for lot in range(1 << stands) if finest.rounded(lot) != coarsest.rounded(lot)]
        self.assertEqual(ask, unlike[0] if unlike else None)
        self.assertEqual(ask is None, len(fitting) == 1)
        for lot in range(1 << stands):
            rounded = {glasses.rounded(lot) for glasses in fitting}
            self.assertEqual(shows_surely(stands, facts, lot), rounded.pop() if len(rounded) == 1 else None)

    def test_more_stands(self):
        for stands in (4, 5, 6):
            for facts in some_facts(stands, 40):
                if misfit_of(stands, facts) is None:
                    finest, coarsest = finest_glasses(stands, facts), coarsest_glasses(stands, facts)
                    self.assertTrue(fits(finest, facts) and fits(coarsest, facts))
                    kept = [lot for lot in range(1 << stands) if all(s & ~lot or r & ~lot == 0 for s, r in facts)]
                    self.assertEqual(list(finest.members), kept)
                    self.assertEqual(coarsest, made_glasses(stands, [told for _, told in facts]))

    def test_names_of_arguments(self):
        self.assertEqual(finest_glasses(facts=FACTS, stands=3), finest_glasses(3, FACTS))
        self.assertEqual(coarsest_glasses(facts=FACTS, stands=3), coarsest_glasses(3, FACTS))
        self.assertEqual((count_fitting(facts=FACTS, stands=3), next_ask(facts=FACTS, stands=3)), (4, 0))
        self.assertEqual(shows_surely(lot=3, facts=FACTS, stands=3), 7)

    def test_wrong_lots_ahead_of_none_fits(self):
        for lot in NO_WHOLES + (8,):
            self.assertEqual(error_of(shows_surely, 3, FACTS, lot), (BadLot, ()), lot)
            self.assertEqual(error_of(shows_surely, 3, [(3, 1)], lot), (BadLot, ()), lot)
            self.assertEqual(error_of(shows_surely, 3, [(3, 9)], lot), (BadFact, (0,)), lot)
        self.assertEqual(error_of(shows_surely, 3, [(3, 1)], 7), (NoneFits, (0, 0)))

    def test_too_many_stands_to_count(self):
        for stands in (4, 5, 6):
            self.assertEqual(error_of(count_fitting, stands, []), (TooMany, (3,)))
            self.assertEqual(error_of(count_fitting, stands, [(3, 1)]), (TooMany, (3,)))
            self.assertEqual(error_of(count_fitting, stands, None), (BadFact, (None,)))
            self.assertEqual(error_of(count_fitting, stands, [(3, 64)]), (BadFact, (0,)))
        self.assertEqual((count_fitting(3, [(3, 1)]), count_fitting(3, []), count_fitting(1, [])), (0, 61, 2))


class Asking(unittest.TestCase):
    def ask_on(self, glasses):
        """The facts learned by asking until nothing is left to ask."""
        facts = []
        lot = next_ask(glasses.stands, facts)
        while lot is not None:
            self.assertNotIn(lot, [asked for asked, _ in facts])
            facts.append((lot, glasses.rounded(lot)))
            lot = next_ask(glasses.stands, facts)
        return facts

    def test_the_glasses_come_back(self):
        draw = Random(104)
        some = [glasses for stands in (1, 2, 3, 4) for glasses in every_glasses(stands)]
        for glasses in some + [drawn_glasses(draw, stands) for stands in (4, 5, 6) for _ in range(6)]:
            facts = self.ask_on(glasses)
            self.assertEqual(finest_glasses(glasses.stands, facts), glasses)
            self.assertEqual(coarsest_glasses(glasses.stands, facts), glasses)
            self.assertGreaterEqual(len(facts), len(telling_facts(glasses)))
            for lot in range(glasses.every + 1):
                self.assertEqual(shows_surely(glasses.stands, facts, lot), glasses.rounded(lot))


class Telling(unittest.TestCase):
    def test_these_glasses_alone_fit(self):
        for stands in (1, 2, 3):
            families = every_glasses(stands)
            for glasses in families:
                facts = telling_facts(glasses)
                self.assertEqual((type(facts), list(facts)), (tuple, sorted(set(facts))))
                self.assertTrue(all(type(fact) is tuple for fact in facts))
                self.assertEqual([other for other in families if fits(other, facts)], [glasses])

    def test_no_fewer_facts_do(self):
        for stands in (1, 2, 3):
            families = every_glasses(stands)
            for glasses in families[::1 + 2 * (stands == 3)]:
                many = len(telling_facts(glasses))
                every = [(lot, glasses.rounded(lot)) for lot in range(1 << stands)]
                if many:
                    for facts in combinations(every, many - 1):
                        self.assertGreater(sum([fits(other, facts) for other in families]), 1)

    def hidden_by_document(self, glasses, lot):
        if lot in glasses:
            return False
        for other in range(lot):
            if other & ~lot == 0 and self.hidden_by_document(glasses, other):
                if glasses.rounded(other) & ~lot:
                    return False
        return True

    def test_the_told_tuple(self):
        draw = Random(105)
        some = [glasses for stands in (1, 2, 3, 4) for glasses in every_glasses(stands)]
        for glasses in some + [drawn_glasses(draw, 5) for _ in range(8)]:
            hidden = [lot for lot in range(glasses.every + 1) if self.hidden_by_document(glasses, lot)]
            facts = {(lot, glasses.rounded(lot)) for lot in hidden}
            self.assertEqual(made_from(glasses.stands, facts), glasses)
            ends = [end for _, end in facts]
            facts |= {(member, member) for member in needed_members(glasses) if member not in ends}
            self.assertEqual(telling_facts(glasses), tuple(sorted(facts)))

    def test_six_stands(self):
        draw = Random(106)
        for glasses in [made_glasses(6, []), made_glasses(6, list(range(63)))] + [drawn_glasses(draw, 6)]:
            facts = telling_facts(glasses)
            self.assertEqual(finest_glasses(6, facts), glasses)
            self.assertEqual(coarsest_glasses(6, facts), glasses)

    def test_all_alone_and_all_lots(self):
        self.assertEqual(telling_facts(Glasses(2, (3,))), ((0, 3),))
        self.assertEqual(telling_facts(Glasses(2, (0, 1, 2, 3))), ((1, 1), (2, 2)))
        self.assertEqual(telling_facts(Glasses(1, (1,))), ((0, 1),))
        self.assertEqual(telling_facts(Glasses(1, (0, 1))), ((0, 0),))


def made_from(stands, facts):
    """The finest glasses of some facts."""
    return finest_glasses(stands, sorted(facts))


if __name__ == "__main__":
    unittest.main()
