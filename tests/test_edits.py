"""[10.7] to [10.9]: edits, and which of them meet demands."""

import unittest
from itertools import combinations
from random import Random

from helpers import (
    NO_SEQUENCES, NO_WHOLES, drawn_glasses, drawn_program, drawn_row, drawn_steps, error_of, nested)
from truealarms.edits import apply_edits, find_mends, mends_fault
from truealarms.errors import BadDemand, BadEdit, Spoilt, UnlikeStands
from truealarms.exactness import exact_at
from truealarms.families import made_glasses, needed_members
from truealarms.glasses import Glasses
from truealarms.seenends import seen_end
from truealarms.steps import Steps

F = ("step", "f")
TWICE = ("behind", F, F)
NARROW = Glasses(3, (0, 1, 4, 7))
RIVER = Steps(3, [("f", (2, 4, 4)), ("g", (1, 1, 1))])


def edited(glasses, steps, edits):
    """The glasses and steps behind edits, or the place of the first one that is spoilt."""
    for place, edit in enumerate(edits):
        if edit[0] == "member":
            glasses = made_glasses(glasses.stands, sorted({*glasses.members, edit[1]}))
        elif edit[0] == "row":
            entries = [(name, edit[2] if name == edit[1] else row) for name, row in zip(steps.names, steps.rows)]
            steps = Steps(steps.stands, entries)
        elif edit[1] not in needed_members(glasses):
            return place
        else:
            glasses = Glasses(glasses.stands, [member for member in glasses.members if member != edit[1]])
    return glasses, steps


def drawn_edit(draw, stands, names=("f", "g")):
    word = draw.choice(("member", "drop", "row"))
    if word == "row":
        return (word, draw.choice(names), drawn_row(draw, stands))
    return (word, draw.randrange(1 << stands))


class Applying(unittest.TestCase):
    def test_each_form(self):
        for kind in (list, tuple):
            def made(*edits):
                return apply_edits(NARROW, RIVER, kind([kind(edit) for edit in edits]))
            self.assertEqual(made(("member", 6)), (Glasses(3, (0, 1, 4, 6, 7)), RIVER))
            self.assertEqual(made(("member", 4)), (NARROW, RIVER))
            self.assertEqual(made(("member", 3)), (Glasses(3, (0, 1, 3, 4, 7)), RIVER))
            self.assertEqual(made(("drop", 4)), (Glasses(3, (0, 1, 7)), RIVER))
            self.assertEqual(made(("drop", 4), ("drop", 1), ("drop", 0)), (Glasses(3, (7,)), RIVER))
            glasses, steps = made(("row", "g", kind((7, 0, 2))))
            self.assertEqual((glasses, steps), (NARROW, Steps(3, [("f", (2, 4, 4)), ("g", (7, 0, 2))])))
            self.assertEqual([type(row) for row in steps.rows], [tuple, tuple])
            self.assertEqual(made(), (NARROW, RIVER))
        self.assertIs(type(apply_edits(NARROW, RIVER, [])), tuple)
        self.assertEqual(apply_edits(edits=[("drop", 4)], steps=RIVER, glasses=NARROW)[0].members, (0, 1, 7))

    def test_one_after_another(self):
        edits = [("drop", 4), ("member", 6), ("row", "f", (1, 1, 1)), ("row", "f", (4, 4, 4)), ("drop", 1)]
        glasses, steps = apply_edits(NARROW, RIVER, edits)
        self.assertEqual((glasses.members, steps.row_of("f")), ((0, 6, 7), (4, 4, 4)))

    def test_what_was_passed_in_stays(self):
        row, edits = [1, 1, 1], [["member", 6], ["drop", 1]]
        edits.append(["row", "f", row])
        glasses, steps = Glasses(3, (0, 1, 4, 7)), Steps(3, [("f", (2, 4, 4)), ("g", (1, 1, 1))])
        _, changed = apply_edits(glasses, steps, edits)
        self.assertEqual((glasses, steps), (NARROW, RIVER))
        self.assertEqual(edits, [["member", 6], ["drop", 1], ["row", "f", [1, 1, 1]]])
        row[0] = 7
        self.assertEqual(changed.row_of("f"), (1, 1, 1))

    def test_drawn_edits(self):
        draw = Random(107)
        spoilt = 0
        for _ in range(400):
            stands = draw.randrange(1, 5)
            glasses, steps = drawn_glasses(draw, stands), drawn_steps(draw, stands)
            edits = [drawn_edit(draw, stands) for _ in range(draw.randrange(13))]
            due = edited(glasses, steps, edits)
            if isinstance(due, int):
                spoilt += 1
                self.assertEqual(error_of(apply_edits, glasses, steps, edits), (Spoilt, (due,)))
            else:
                self.assertEqual(apply_edits(glasses, steps, edits), due)
        self.assertGreater(spoilt, 50)

    def test_spoilt_at_that_moment(self):
        # 0 is no needed member as long as it is the common part of 1 and 4.
        for edits, place in (
                ([("drop", 0)], 0), ([("drop", 7)], 0), ([("drop", 2)], 0), ([("drop", 4), ("drop", 4)], 1),
                ([("member", 6), ("drop", 4), ("drop", 0), ("drop", 6)], 2),
                ([("member", 5), ("drop", 1), ("row", "g", (0, 0, 0)), ("drop", 1)], 3)):
            self.assertEqual(error_of(apply_edits, NARROW, RIVER, edits), (Spoilt, (place,)), edits)
        self.assertIsNone(error_of(apply_edits, NARROW, RIVER, [("drop", 4), ("drop", 0)]))
        self.assertIsNone(error_of(apply_edits, NARROW, RIVER, [("drop", 4), ("member", 4), ("drop", 4)]))

    def test_twelve_and_thirteen(self):
        self.assertIsNone(error_of(apply_edits, NARROW, RIVER, [("member", 1)] * 12))
        self.assertEqual(error_of(apply_edits, NARROW, RIVER, [("member", 1)] * 13), (BadEdit, (0, "many")))
        self.assertEqual(error_of(apply_edits, NARROW, RIVER, (None,) * 13), (BadEdit, (0, "many")))


WRONG_EDITS = [(edit, "kind") for edit in NO_SEQUENCES + (
    (), [], ("member",), ("member", 1, 1), ("drop",), ("drop", 1, 1), ("row", "f"), ("row", "f", (1, 1, 1), 1),
    ("row", (1, 1, 1)), ("Member", 1), ("members", 1), (None, 1), (["member"], 1), ("", 1), (1, "member"), ({}, 1))]
WRONG_EDITS += [(edit, "lot") for lot in NO_WHOLES + (8,) for edit in (("member", lot), ["drop", lot])]
WRONG_EDITS += [(["row", name, row], "name") for name in NO_WHOLES + ("h", "F", "nothing", "ff", ["f"], ("f",))
                for row in (None, (1, 1, 1))]
WRONG_EDITS += [(("row", "f", row), "row") for row in NO_SEQUENCES + ((1, 1), [1, 1, 8], (1, 1, 1, 1), (True, 1, 1))]
RIGHT_EDITS = (("drop", 0), ["member", 6], ("row", "g", [1, 2, 4]))


class WrongEdits(unittest.TestCase):
    def check_words(self, call, many):
        """Each word with its place; a drop that is spoilt stands ahead of the wrong edit."""
        for edits in NO_SEQUENCES:
            self.assertEqual(error_of(call, edits), (BadEdit, (0, "many")), edits)
        for wrong, word in WRONG_EDITS:
            for place in range(many):
                edits = list(RIGHT_EDITS[:place]) + [wrong, ("member", 99)]
                for kind in (list, tuple):
                    self.assertEqual(error_of(call, kind(edits)), (BadEdit, (place, word)), wrong)

    def test_of_apply_edits(self):
        self.check_words(lambda edits: apply_edits(NARROW, RIVER, edits), 4)

    def test_of_pools(self):
        demands = [("exact", F, 1)]
        for call in (lambda pool: find_mends(NARROW, RIVER, pool, demands),
                     lambda pool: mends_fault(NARROW, RIVER, pool, None, None)):
            self.check_words(call, 3)
            for pool in ([], (), [("member", 1)] * 6, [None] * 6):
                self.assertEqual(error_of(call, pool), (BadEdit, (0, "many")), pool)
        self.assertIsNone(error_of(find_mends, NARROW, RIVER, [("member", 1)] * 5, demands))

    def test_unlike_stands_come_first(self):
        for glasses, steps in ((NARROW, Steps(2, [])), (made_glasses(2, []), RIVER)):
            for edits in ([], None, [("drop", 0)], [None]):
                self.assertEqual(error_of(apply_edits, glasses, steps, edits), (UnlikeStands, ()))
                self.assertEqual(error_of(find_mends, glasses, steps, edits, None), (UnlikeStands, ()))
                self.assertEqual(error_of(mends_fault, glasses, steps, edits, None, None), (UnlikeStands, ()))


def mends_by_document(glasses, steps, pool, demands):
    """All mends, by going through all picks."""
    mends = []
    for many in range(len(pool) + 1):
        for pick in combinations(range(len(pool)), many):
            due = edited(glasses, steps, [pool[index] for index in pick])
            if not isinstance(due, int) and all([is_met(*due, demand) for demand in demands]):
                mends.append(pick)
    return mends


def is_met(glasses, steps, demand):
    if demand[0] == "exact":
        return exact_at(glasses, steps, demand[1], demand[2])
    return seen_end(glasses, steps, demand[1], demand[2]) & ~demand[3] == 0


def least_by_document(mends):
    return tuple([pick for pick in mends if not any(set(other) < set(pick) for other in mends)])


def drawn_demand(draw, stands):
    program, lot = drawn_program(draw, draw.randrange(1, 6)), draw.randrange(1 << stands)
    if draw.randrange(2):
        return ("exact", program, lot)
    return ("quiet", program, lot, draw.randrange(1 << stands) | draw.randrange(1 << stands))


def cases(draw, many):
    found = []
    for _ in range(many):
        stands = draw.randrange(2, 4)
        pool = [drawn_edit(draw, stands) for _ in range(draw.randrange(1, 6))]
        demands = [drawn_demand(draw, stands) for _ in range(draw.randrange(1, 4))]
        found.append((drawn_glasses(draw, stands), drawn_steps(draw, stands), pool, demands))
    return found


class Mends(unittest.TestCase):
    POOL = (("member", 2), ["member", 6], ("drop", 4), ("row", "f", [2, 4, 0]))

    def test_some(self):
        demands = [("exact", TWICE, 1)]
        found = find_mends(NARROW, RIVER, self.POOL, demands)
        self.assertEqual(found, tuple(least_by_document(mends_by_document(NARROW, RIVER, self.POOL, demands))))
        self.assertEqual(found, ((0,), (1,), (2,)))
        self.assertTrue(all(type(pick) is tuple for pick in found))
        self.assertEqual(find_mends(demands=demands, pool=list(self.POOL), steps=RIVER, glasses=NARROW), found)
        demands += [["quiet", TWICE, 1, 4]]
        self.assertEqual(find_mends(NARROW, RIVER, self.POOL, demands), ((0,), (1,)))

    def test_met_already_and_never(self):
        for demand in (("exact", F, 1), ["quiet", F, 1, 7], ("quiet", TWICE, 1, 7)):
            self.assertEqual(find_mends(NARROW, RIVER, self.POOL, (demand,)), ((),))
        self.assertEqual(find_mends(NARROW, RIVER, [("member", 1)], [("exact", TWICE, 1)]), ())
        self.assertEqual(find_mends(NARROW, RIVER, [("drop", 0)], [("exact", TWICE, 1)]), ())

    def test_a_limit_that_is_no_member(self):
        self.assertNotIn(6, NARROW)
        pool = [("member", 6)]
        self.assertEqual(find_mends(NARROW, RIVER, pool, [("quiet", F, 1, 3)]), ())
        self.assertEqual(find_mends(NARROW, RIVER, pool, [("quiet", F, 1, 6)]), ((0,),))
        self.assertEqual(find_mends(NARROW, RIVER, pool, [("quiet", TWICE, 4, 5)]), ((),))

    def test_edits_in_their_order(self):
        # 0 is the common part of 1 and 4; so it can be dropped behind one of them alone.
        demands = [("quiet", ("nothing",), 0, 1)]
        steps = Steps(3, [])
        given = Glasses(3, (0, 1, 4, 7))
        self.assertEqual(find_mends(given, steps, [("drop", 0), ("drop", 4)], demands), ((),))
        demands.append(["exact", ("nothing",), 0])
        pool = [("drop", 0), ("drop", 4), ("drop", 0), ("drop", 4)]
        due = mends_by_document(given, steps, pool, demands)
        self.assertEqual(due, [(), (1,), (3,), (1, 2)])
        self.assertEqual(find_mends(given, steps, pool, demands), ((),))
        self.assertEqual(find_mends(given, steps, pool[:1], [("quiet", ("nothing",), 0, 0)]), ((),))
        self.assertEqual(find_mends(given, RIVER, [("member", 6), ("drop", 6), ("member", 6)], [("exact", TWICE, 1)]), (
            (0,), (2,)))

    def test_against_all_picks(self):
        draw = Random(108)
        sizes, forms = set(), set()
        for glasses, steps, pool, demands in cases(draw, 500):
            mends = mends_by_document(glasses, steps, pool, demands)
            found = find_mends(glasses, steps, pool, demands)
            self.assertEqual((type(found), found), (tuple, least_by_document(mends)))
            self.assertEqual(list(found), sorted(found, key=lambda pick: (len(pick), pick)))
            sizes.update([len(pick) for pick in found])
            forms.add((len(found), mends == list(found)))
        self.assertGreaterEqual(sizes, {0, 1, 2})
        self.assertGreaterEqual({many for many, _ in forms}, {0, 1, 2})

    def test_more_edits_need_not_do_better(self):
        found = 0
        draw = Random(109)
        for given in cases(draw, 300):
            mends = mends_by_document(*given)
            for pick in mends:
                for other in combinations(range(len(given[2])), len(pick) + 1):
                    found += set(pick) < set(other) and other not in mends
        self.assertGreater(found, 0)

    def test_pools_of_five_and_six_demands(self):
        pool = list(self.POOL) + [("row", "g", (2, 2, 2))]
        demands = [("exact", ("again", F), lot) for lot in range(5)] + [("quiet", ("step", "g"), 7, 2)]
        found = find_mends(NARROW, RIVER, pool, demands)
        self.assertEqual(found, least_by_document(mends_by_document(NARROW, RIVER, pool, demands)))


class WrongDemands(unittest.TestCase):
    POOL = [("member", 2)]

    def check_both(self, demands, due):
        self.assertEqual(error_of(find_mends, NARROW, RIVER, self.POOL, demands), due, demands)
        self.assertEqual(error_of(mends_fault, NARROW, RIVER, self.POOL, demands, None), due, demands)

    def test_numbers(self):
        right = ("exact", F, 1)
        for demands in NO_SEQUENCES + ([], (), [right] * 7, [None] * 7):
            self.check_both(demands, (BadDemand, (None,)))
        self.check_both([right], None)
        self.check_both((right,) * 6, None)

    def test_each_place(self):
        wrongs = list(NO_SEQUENCES) + [
            (), ("exact",), ("exact", F), ("exact", F, 1, 1), ("quiet", F, 1), ("quiet", F, 1, 7, 7), ("Exact", F, 1),
            (None, F, 1), (["exact"], F, 1), ("", F, 1), ("exact", ("step", "h"), 1), ("exact", ["step", "f"], 1),
            ("quiet", None, 1, 7), ("quiet", nested(lambda inner: ("again", inner), 5), 1, 7)]
        for lot in NO_WHOLES + (8,):
            wrongs += [("exact", F, lot), ["quiet", F, lot, 7], ("quiet", F, 1, lot)]
        for wrong in wrongs:
            for place in range(3):
                right = [["exact", F, 1], ("quiet", F, 1, 6)][:place]
                self.check_both(right + [wrong, None], (BadDemand, (place,)))

    def test_edits_come_first(self):
        for pool, due in (([], (BadEdit, (0, "many"))), ([("drop", 0), None], (BadEdit, (1, "kind")))):
            self.assertEqual(error_of(find_mends, NARROW, RIVER, pool, None), due)
            self.assertEqual(error_of(mends_fault, NARROW, RIVER, pool, None, ()), due)


class Fault(unittest.TestCase):
    POOL = (("member", 2), ("member", 6), ("drop", 4), ("row", "g", (1, 1, 2)))
    DEMANDS = (("exact", TWICE, 1),)

    def fault(self, picks):
        return mends_fault(NARROW, RIVER, self.POOL, self.DEMANDS, picks)

    def test_the_right_answer(self):
        self.assertEqual(find_mends(NARROW, RIVER, self.POOL, self.DEMANDS), ((0,), (1,), (2,)))
        self.assertIsNone(self.fault(((0,), (1,), (2,))))
        self.assertIsNone(mends_fault(picks=((0,), (1,), (2,)), demands=self.DEMANDS, pool=self.POOL, steps=RIVER,
                                      glasses=NARROW))
        self.assertIsNone(mends_fault(NARROW, RIVER, self.POOL, [("exact", F, 1)], ((),)))
        self.assertIsNone(mends_fault(NARROW, RIVER, [("member", 1)], self.DEMANDS, ()))

    def test_form(self):
        for picks in NO_SEQUENCES + (
                [(0,), (1,)], [], ((0,), [1]), ((0,), (1, 1)), ((1, 0),), ((4,),), ((-1,),), (0, 1), ((True,),),
                ((False,),), ((0, True),), (("0",),), ((0.0,),), (None,), ("0",), ((0,), (1,), (2,), (0, 1, 2, 3, 4)),
                (((0,),),), ((3,), (None,))):
            self.assertEqual(self.fault(picks), "form", picks)

    def test_unmet(self):
        for picks in (((),), ((3,),), ((0,), (3,)), ((0,), (1,), (2,), ()), ((3,), (0, 1), (0,))):
            self.assertEqual(self.fault(picks), "unmet", picks)

    def test_least(self):
        self.assertIn((0, 3), mends_by_document(NARROW, RIVER, self.POOL, self.DEMANDS))
        for picks in (((0, 3),), ((0,), (1,), (2,), (0, 3)), ((2,), (0,), (1, 3)), ((0, 3), (0, 3))):
            self.assertEqual(self.fault(picks), "least", picks)

    def test_order(self):
        for picks in (((1,), (0,), (2,)), ((0,), (0,), (1,), (2,)), ((2,), (1,)), ((0,), (1,), (1,))):
            self.assertEqual(self.fault(picks), "order", picks)

    def test_lacking(self):
        for picks in ((), ((0,),), ((1,),), ((0,), (2,)), ((1,), (2,))):
            self.assertEqual(self.fault(picks), "lacking", picks)
        self.assertEqual(mends_fault(NARROW, RIVER, self.POOL, [("exact", F, 1)], ()), "lacking")

    def test_against_the_document(self):
        draw = Random(110)
        words = set()
        for glasses, steps, pool, demands in cases(draw, 250):
            mends = mends_by_document(glasses, steps, pool, demands)
            least = list(least_by_document(mends))
            picks = list(least)
            for _ in range(draw.randrange(3)):
                change = draw.randrange(4)
                if change == 0:
                    picks.append(tuple(sorted(draw.sample(range(len(pool)), draw.randrange(len(pool) + 1)))))
                elif change == 1 and mends:
                    picks.insert(draw.randrange(len(picks) + 1), draw.choice(mends))
                elif change == 2 and picks:
                    picks.pop(draw.randrange(len(picks)))
                else:
                    draw.shuffle(picks)
            if not all(pick in mends for pick in picks):
                due = "unmet"
            elif not all(pick in least for pick in picks):
                due = "least"
            elif picks != [pick for pick in least if pick in picks]:
                due = "order"
            else:
                due = None if picks == least else "lacking"
            self.assertEqual(mends_fault(glasses, steps, pool, demands, tuple(picks)), due)
            words.add(due)
        self.assertEqual(words, {None, "unmet", "least", "order", "lacking"})


if __name__ == "__main__":
    unittest.main()
