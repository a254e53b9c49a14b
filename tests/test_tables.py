"""Tables: what they are, whether they are right, what shows that they are wrong, expressions and recipes."""

import random
import unittest

from lazytags.errors import InvalidExpression, InvalidRecipe, InvalidTable, NoSuchAsk, NotASetting
from lazytags.records import least_records
from lazytags.settings import Setting
from lazytags.tables import check_records, check_table, check_wrong, cover, row_of, worked
from tests.makers import LAST, NEST, ODD, WRONG_THINGS, PlainRecords, one_between, cycle, random_machine
from tests.makers import random_setting, shuffles, tailed_cycle
from tests.reckoning import blown, expression_of, plain_cover, plain_record, plain_row, random_expression, random_recipe
from tests.reckoning import random_table, reached_records, recipe_told, with_a_change

FLIP = {"flip": (1, 0)}
ODDS = Setting(2, FLIP, {"odd": ODD}, True)
ONES = (1, 2)
JOINS = ((0, 1, 2, 3), (1, 0, 3, 2), (2, 3, 0, 1), (3, 2, 1, 0))
MOVES = {"flip": (0, 2, 1, 3), "turn": (0, 1, 2, 3)}
ANSWERS = {"odd": (0, 0, 1, 1)}
TABLE = (ONES, JOINS, MOVES, ANSWERS)
NO_RECORDS = [-1, 4, True, False, None, "0", (0,), [], {}, Setting(1), 10 ** 99]


class TestCheckTable(unittest.TestCase):
    def test_tables(self):
        self.assertIsNone(check_table(ODDS, TABLE))
        self.assertIsNone(check_table(thing=TABLE, setting=ODDS))
        self.assertIsNone(check_table(Setting(3), ((0, 0, 0), ((0,),), {}, {})))
        # A table need not be right.
        self.assertIsNone(check_table(ODDS, (ONES, JOINS, MOVES, {"odd": (99, 0, 99, 5)})))
        self.assertIsNone(check_table(ODDS, ((3, 3), ((3,) * 4,) * 4, {"turn": (3,) * 4, "flip": (1,) * 4}, ANSWERS)))

    def test_form(self):
        wrong = [
            *WRONG_THINGS, (), (ONES, JOINS, MOVES), (*TABLE, 0), list(TABLE), (list(ONES), JOINS, MOVES, ANSWERS),
            (ONES, list(JOINS), MOVES, ANSWERS), (ONES, JOINS, tuple(MOVES), ANSWERS), (ONES, JOINS, MOVES, None),
            (ONES, JOINS, list(MOVES), ANSWERS), (ONES, (), MOVES, ANSWERS), ((), (), {}, {}), (None, JOINS, MOVES, ANSWERS),
            (ONES, None, MOVES, ANSWERS), (ONES, JOINS, ANSWERS, ()), (ONES, "ab", MOVES, ANSWERS), (TABLE,), TABLE * 2,
        ]
        for thing in wrong:
            self.assertEqual(check_table(ODDS, thing), ("form",), thing)

    def test_ones(self):
        for ones in [(), (1,), (1, 2, 3), *[(1, thing) for thing in NO_RECORDS], *[(thing, 2) for thing in NO_RECORDS]]:
            self.assertEqual(check_table(ODDS, (ones, JOINS, MOVES, ANSWERS)), ("ones",), ones)

    def test_joins(self):
        wrong = [(0, 1, 2), (0, 1, 2, 3, 0), (), [0, 1, 2, 3], None, 0, "0123", {}, Setting(1)]
        wrong += [(0, 1, 2, thing) for thing in NO_RECORDS]
        for line in wrong:
            for at in range(4):
                joins = JOINS[:at] + (line,) + JOINS[at + 1:]
                self.assertEqual(check_table(ODDS, (ONES, joins, MOVES, ANSWERS)), ("joins", at), line)
        self.assertEqual(check_table(ODDS, (ONES, (JOINS[0], (), (), None), MOVES, ANSWERS)), ("joins", 1))

    def test_moves(self):
        wrong = [(0, 1, 2), (0, 1, 2, 3, 0), (), [0, 1, 2, 3], None, 0, "0123", {}, Setting(1)]
        wrong += [(0, 1, 2, thing) for thing in NO_RECORDS]
        for line in wrong:
            for name in ["flip", "turn"]:
                self.assertEqual(check_table(ODDS, (ONES, JOINS, {**MOVES, name: line}, ANSWERS)), ("moves", name), line)
        self.assertEqual(check_table(ODDS, (ONES, JOINS, {"turn": None, "flip": None}, ANSWERS)), ("moves", "flip"))

    def test_deeds_that_are_not_keys_and_keys_that_are_not_deeds(self):
        line = (0, 1, 2, 3)
        for moves, name in [
            ({}, "flip"),
            ({"flip": line}, "turn"),
            ({"turn": line}, "flip"),
            ({**MOVES, "a": line}, "a"),
            ({**MOVES, "": line}, ""),
            ({**MOVES, "z\n": line}, "z\n"),
            ({"turn": line, "flop": line}, "flip"),
            ({"turn": line, "aaa": line}, "aaa"),
            ({**MOVES, "zoo": None, "odd": line}, "odd"),
            ({"flip": line, "tur": line}, "tur"),
            ({"flip": (9,), "tur": line}, "flip"),
        ]:
            self.assertEqual(check_table(ODDS, (ONES, JOINS, moves, ANSWERS)), ("moves", name), moves)
        still = Setting(2, FLIP, {"odd": ODD})
        self.assertEqual(check_table(still, TABLE), ("moves", "turn"))
        self.assertEqual(check_table(Setting(2, None, {"odd": ODD}), TABLE), ("moves", "flip"))

    def test_answers(self):
        wrong = [(0, 1, 2), (0, 1, 2, 3, 0), (), [0, 1, 2, 3], None, 0, "0123", {}, Setting(1)]
        wrong += [(0, 1, thing, 3) for thing in NO_RECORDS if thing != 4] + [(100, 0, 0, 0)]
        for line in wrong:
            self.assertEqual(check_table(ODDS, (ONES, JOINS, MOVES, {"odd": line})), ("answers", "odd"), line)
        line = (0, 0, 1, 1)
        for answers, name in [
            ({}, "odd"), ({"odd": line, "even": line}, "even"), ({"odd": line, "p": line}, "p"), ({"p": line}, "odd"),
            ({"flip": line}, "flip"), ({"odd": line, "flip": line}, "flip"), ({"odd": None, "p": line}, "odd"),
            ({"odd": line, "": line}, ""),
        ]:
            self.assertEqual(check_table(ODDS, (ONES, JOINS, MOVES, answers)), ("answers", name), answers)

    def test_first_problem_counts(self):
        self.assertEqual(check_table(ODDS, ((), (), {}, {})), ("form",))
        self.assertEqual(check_table(ODDS, ((), ((),), {}, {})), ("ones",))
        self.assertEqual(check_table(ODDS, ((0, 0), ((),), {}, {})), ("joins", 0))
        self.assertEqual(check_table(ODDS, ((0, 0), ((0,),), {}, {})), ("moves", "flip"))
        self.assertEqual(check_table(ODDS, ((0, 0), ((0,),), {"flip": (0,), "turn": (0,)}, {})), ("answers", "odd"))


class TestRight(unittest.TestCase):
    def test_least_tables(self):
        rng = random.Random(11)
        for _ in range(40):
            setting = random_setting(rng, rng.randint(1, 3), 2)
            table = least_records(setting)
            self.assertIsNone(check_table(setting, table))
            self.assertIsNone(check_records(setting, table))
            self.assertEqual(cover(setting, table), tuple(range(len(table[1]))))

    def test_records_doubled_and_not_reached(self):
        rng = random.Random(12)
        missed = 0
        for _ in range(60):
            setting = random_setting(rng, rng.randint(1, 3), 2)
            table, stands = blown(rng, least_records(setting), rng.randint(0, 4), rng.randint(0, 3))
            self.assertIsNone(check_records(setting, table))
            reached = reached_records(table)
            told = cover(setting=setting, table=table)
            self.assertEqual(told, tuple(own if k in reached else None for k, own in enumerate(stands)))
            missed += None in told
        self.assertTrue(missed > 10)

    def test_by_hand(self):
        # A join with the record of the empty row may be another record.
        setting = Setting(1, None, {"any": (0, ((1,), (1,)), (0, 1))})
        table = ((1,), ((2, 1, 1), (3, 3, 3), (0, 1, 1), (1, 1, 3)), {}, {"any": (0, 1, 0, 1)})
        self.assertEqual(check_table(setting, table), ("joins", 0))
        table = ((1,), ((2, 1, 2, 1), (3, 3, 3, 3), (0, 1, 0, 1), (1, 1, 3, 1)), {}, {"any": (0, 1, 0, 1)})
        self.assertIsNone(check_records(setting, table))
        self.assertEqual(cover(setting, table), (0, 1, 0, 1))

    def test_without_asks_each_table_is_right(self):
        rng = random.Random(13)
        for many in [1, 2, 7]:
            setting = Setting(2, FLIP, None, True)
            table = random_table(rng, setting, many)
            self.assertIsNone(check_records(setting, table))
            reached = reached_records(table)
            self.assertEqual(cover(setting, table), tuple(0 if k in reached else None for k in range(many)))

    def test_many_records(self):
        for many in [300, 310]:
            joins = tuple(tuple((one + other) % many for other in range(many)) for one in range(many))
            asks = {"a": cycle(10), "b": cycle(many // 10 if many == 310 else 12), "c": cycle(25 if many == 300 else 31)}
            setting = Setting(1, {"stay": (0,)}, asks)
            answers = {name: tuple(record % len(ask[1]) for record in range(many)) for name, ask in asks.items()}
            table = ((1,), joins, {"stay": tuple(range(many))}, answers)
            self.assertIsNone(check_records(setting, table))
            self.assertEqual(cover(setting, table), tuple(range(many)))


class TestWrong(unittest.TestCase):
    def assert_wrong(self, setting, table):
        told = check_records(setting, table)
        self.assertIsInstance(told, tuple)
        word, ask, recipe = told
        self.assertEqual(word, "wrong")
        self.assertIn(ask, setting.asks)
        self.assertIsInstance(recipe, tuple)
        self.assertTrue(1 <= len(recipe) <= 500)
        given, due = recipe_told(setting, table, ask, recipe)
        self.assertNotEqual(given, due)
        self.assertIs(check_wrong(setting, table, ask, recipe), True)
        self.assertEqual(check_records(setting, table), told)
        with self.assertRaises(InvalidTable) as caught:
            cover(setting, table)
        self.assertEqual(caught.exception.problem, told)
        return told

    def test_problems_of_the_form_come_first(self):
        self.assertEqual(check_records(ODDS, None), ("form",))
        self.assertEqual(check_records(ODDS, ((0,), JOINS, MOVES, ANSWERS)), ("ones",))
        self.assertEqual(check_records(ODDS, (ONES, JOINS, {}, {"odd": (1, 1, 1, 1)})), ("moves", "flip"))
        for thing in [None, (ONES, JOINS, {}, ANSWERS), *WRONG_THINGS]:
            with self.assertRaises(InvalidTable) as caught:
                cover(ODDS, thing)
            self.assertEqual(caught.exception.problem, check_table(ODDS, thing))

    def test_by_hand(self):
        for at in range(4):
            answers = ANSWERS["odd"][:at] + (7,) + ANSWERS["odd"][at + 1:]
            self.assert_wrong(ODDS, (ONES, JOINS, MOVES, {"odd": answers}))
        self.assert_wrong(ODDS, ((2, 1), JOINS, MOVES, ANSWERS))
        self.assert_wrong(ODDS, (ONES, JOINS, {**MOVES, "turn": (0, 2, 1, 3)}, ANSWERS))
        self.assert_wrong(ODDS, (ONES, JOINS, {**MOVES, "flip": (0, 1, 2, 3)}, ANSWERS))
        for one in range(4):
            for other in range(4):
                line = JOINS[one][:other] + ((JOINS[one][other] + 1) % 4,) + JOINS[one][other + 1:]
                self.assert_wrong(ODDS, (ONES, JOINS[:one] + (line,) + JOINS[one + 1:], MOVES, ANSWERS))

    def test_too_few_records(self):
        self.assert_wrong(ODDS, ((0, 0), ((0,),), {"flip": (0,), "turn": (0,)}, {"odd": (0,)}))
        # Enough without the flip, but not with it.
        table = ((0, 1), ((0, 1), (1, 0)), {"flip": (0, 1), "turn": (0, 1)}, {"odd": (0, 1)})
        self.assert_wrong(ODDS, table)
        self.assertIsNone(check_records(Setting(2, None, {"odd": ODD}), (table[0], table[1], {}, table[3])))
        # Five are needed.
        last = Setting(2, None, {"last": LAST}, True)
        self.assert_wrong(last, random_table(random.Random(1), last, 4))

    def test_what_is_not_reached_does_not_matter(self):
        rng = random.Random(14)
        told = {True: 0, False: 0}
        for _ in range(80):
            setting = random_setting(rng, 2, 2)
            plain = PlainRecords(setting, 20)
            if len(plain.rows) > 20 or not setting.asks:
                continue
            table, _ = blown(rng, least_records(setting), rng.randint(0, 2), rng.randint(0, 2))
            table = with_a_change(rng, table)
            stands = plain_cover(plain, table)
            told[stands is None] += 1
            if stands is None:
                self.assert_wrong(setting, table)
            else:
                self.assertIsNone(check_records(setting, table))
                self.assertEqual(cover(setting, table), tuple(stands.get(k) for k in range(len(table[1]))))
        self.assertTrue(min(told.values()) > 10)

    def test_random_tables(self):
        rng = random.Random(15)
        wrong = 0
        for _ in range(80):
            setting = random_setting(rng, rng.randint(1, 3), 2)
            table = random_table(rng, setting, rng.randint(1, 5))
            plain = PlainRecords(setting, 20)
            if len(plain.rows) > 20:
                continue
            if plain_cover(plain, table) is None:
                self.assert_wrong(setting, table)
                wrong += 1
            else:
                self.assertIsNone(check_records(setting, table))
        self.assertTrue(wrong > 20)

    def test_settings_with_very_many_records(self):
        rng = random.Random(16)
        maps = {"a": (1, 2, 0), "b": (1, 0, 2), "c": (0, 0, 2)}
        for turning in [False, True]:
            setting = Setting(3, maps, {name: random_machine(rng, 12, 3, 2) for name in "ab"}, turning)
            for many in [1, 3, 40, 300]:
                self.assert_wrong(setting, random_table(rng, setting, many))
                same = ((0,) * many,) * many
                moves = {deed: (0,) * many for deed in setting.deeds}
                self.assert_wrong(setting, ((many - 1,) * 3, same, moves, {"a": (0,) * many, "b": (1,) * many}))

    def test_wrong_only_far_within_a_row(self):
        # Only the right number of values before and behind an expression show the answer that is wrong.
        for left, right in [(0, 0), (0, 1), (1, 0), (1, 1), (3, 2), (2, 5), (0, 26), (26, 0), (13, 13), (7, 19)]:
            ask = {"a": one_between(left, right)}
            for maps, turning in [(None, False), (FLIP, False), (None, True), ({"zero": (0, 0)}, True)]:
                setting = Setting(2, maps, ask, turning)
                for many in [1, 2, 5]:
                    line = (0,) * many
                    moves = {deed: line for deed in setting.deeds}
                    self.assert_wrong(setting, ((many - 1, 0), (line,) * many, moves, {"a": line}))
                    self.assert_wrong(setting, ((0, many - 1), ((many - 1,) * many,) * many, moves, {"a": line}))
                rng = random.Random(left * 30 + right)
                for many in [3, 20, 60]:
                    self.assert_wrong(setting, random_table(rng, setting, many))

    def test_each_change_of_a_table_by_hand(self):
        rng = random.Random(23)
        for ask in [one_between(1, 1), one_between(2, 0), one_between(0, 2), shuffles(2)]:
            for maps, turning in [(None, False), (FLIP, False), ({"zero": (0, 0)}, True)]:
                setting = Setting(2, maps, {"a": ask}, turning)
                ones, joins, moves, answers = least_records(setting)
                many = len(joins)
                for _ in range(60):
                    one, other, to = [rng.randrange(many) for _ in range(3)]
                    line = joins[one][:other] + (to,) + joins[one][other + 1:]
                    table = (ones, joins[:one] + (line,) + joins[one + 1:], moves, answers)
                    if to == joins[one][other]:
                        self.assertIsNone(check_records(setting, table))
                    else:
                        self.assert_wrong(setting, table)
                for name in moves:
                    for at in range(many):
                        line = moves[name][:at] + ((moves[name][at] + 1) % many,) + moves[name][at + 1:]
                        self.assert_wrong(setting, (ones, joins, {**moves, name: line}, answers))

    def test_one_record_less_than_needed(self):
        # 301 records are needed. These 300 are right up to rows of 299 values, then they begin anew at one value.
        asks = {"a": tailed_cycle(1, 25), "b": cycle(12)}
        setting = Setting(1, None, asks)
        joins = [[one + other for other in range(300)] for one in range(300)]
        joins = tuple(tuple(k if k < 300 else (k - 1) % 299 + 1 for k in line) for line in joins)
        answers = {"a": tuple(0 if k == 0 else (k - 1) % 25 + 1 for k in range(300)), "b": tuple(k % 12 for k in range(300))}
        _, _, recipe = self.assert_wrong(setting, ((1,), joins, {}, answers))
        self.assertTrue(len(recipe) > 12)

    def test_only_expressions_of_very_many_parts_show_it(self):
        # Only joins of a record with itself lead on: the last record is reached by an expression of 2 ** 298 values.
        joins = tuple(tuple(min(k + 1, 299) if k == j else 0 for j in range(300)) for k in range(300))
        setting = Setting(1, None, {"seven": (0, ((0,),), (7,))})
        _, _, recipe = self.assert_wrong(setting, ((1,), joins, {}, {"seven": (7,) * 299 + (0,)}))
        self.assertEqual(recipe, (("value", 0), *[("join", k, k) for k in range(298)]))
        self.assertIsNone(check_records(setting, ((1,), joins, {}, {"seven": (7,) * 300})))

    def test_doubling_with_an_ask_that_counts(self):
        # The record k stands for 2 ** (k - 1) values; the remainders modulo 29 recur after 28 doublings.
        setting = Setting(1, None, {"c": cycle(29)})
        power, powers = 1, []
        for _ in range(270):
            powers.append(power)
            power = power * 2 % 29
        places = {0: 271, **{powers[k]: k + 1 for k in range(28)}}
        stands = [0, *powers, 0]
        joins = [[places[(one + other) % 29] for other in stands] for one in stands]
        for k in range(1, 270):
            joins[k][k] = k + 1
        table = ((1,), tuple(map(tuple, joins)), {}, {"c": tuple(stands)})
        self.assertIsNone(check_records(setting, table))
        self.assertEqual(cover(setting, table), tuple(stands))
        wrong = (table[0], table[1], {}, {"c": (*stands[:270], 30, 0)})
        _, _, recipe = self.assert_wrong(setting, wrong)
        self.assertTrue(len(recipe) > 200)


class TestCheckWrong(unittest.TestCase):
    def test_short_recipes(self):
        rng = random.Random(17)
        for _ in range(150):
            setting = random_setting(rng, rng.randint(1, 3), 3)
            table = random_table(rng, setting, rng.randint(1, 6))
            recipe = random_recipe(rng, setting, rng.randint(1, 9))
            for ask in setting.asks:
                given, due = recipe_told(setting, table, ask, recipe)
                expression = expression_of(recipe)
                row = plain_row(setting, expression)
                self.assertEqual(due, setting.answer(ask, row))
                self.assertEqual(given, table[3][ask][plain_record(table, expression)])
                self.assertIs(check_wrong(setting, table, ask, recipe), given != due)

    def test_long_recipes(self):
        rng = random.Random(18)
        told = {True: 0, False: 0}
        for _ in range(30):
            setting = random_setting(rng, rng.randint(1, 3), 5)
            table = random_table(rng, setting, rng.randint(1, 300))
            recipe = random_recipe(rng, setting, 500)
            for ask in setting.asks:
                given, due = recipe_told(setting, table, ask, recipe)
                told[given != due] += 1
                self.assertIs(check_wrong(setting=setting, table=table, ask=ask, recipe=recipe), given != due)
        self.assertTrue(min(told.values()) > 5)

    def test_the_order_of_values_and_deeds_matters(self):
        # A table with one record gives one answer: it is wrong just if another one is due.
        rng = random.Random(24)
        maps = {"a": (1, 2, 0), "b": (1, 0, 2), "c": (0, 2, 2)}
        setting = Setting(3, maps, {"s": shuffles(3), "t": (0, ((0, 1, 2),) * 3, (0, 1, 2))}, True)
        moves = {deed: (0,) for deed in setting.deeds}
        found = {}
        for items in [3, 4, 5, 6, 7, 8, 9, 10, 11, 12] * 20 + [500] * 4:
            recipe = random_recipe(rng, setting, items)
            for ask in setting.asks:
                table = ((0, 0, 0), ((0,),), moves, {"s": (7,), "t": (7,)})
                due = recipe_told(setting, table, ask, recipe)[1]
                found[(ask, due)] = True
                if items < 20:
                    self.assertEqual(due, setting.answer(ask, plain_row(setting, expression_of(recipe))))
                for told in range(6):
                    table = ((0, 0, 0), ((0,),), moves, {"s": (told,), "t": (told,)})
                    self.assertIs(check_wrong(setting, table, ask, recipe), told != due)
        self.assertEqual(len(found), 9)

    def test_right_tables_are_never_wrong(self):
        rng = random.Random(19)
        for _ in range(20):
            recipe = random_recipe(rng, ODDS, 200)
            self.assertIs(check_wrong(ODDS, TABLE, "odd", recipe), False)

    def test_empty_rows(self):
        self.assertIs(check_wrong(ODDS, TABLE, "odd", (("empty",), ("deed", "flip", 0), ("join", 1, 0))), False)
        table = (ONES, JOINS, MOVES, {"odd": (1, 0, 1, 1)})
        self.assertIs(check_wrong(ODDS, table, "odd", (("value", 1), ("empty",))), True)
        self.assertIs(check_wrong(ODDS, table, "odd", (("empty",), ("value", 1))), False)

    def test_errors_in_their_order(self):
        recipe = (("value", 0),)
        for thing in [None, (ONES, JOINS, {}, ANSWERS), ((), JOINS, MOVES, ANSWERS)]:
            with self.assertRaises(InvalidTable) as caught:
                check_wrong(ODDS, thing, "no", None)
            self.assertEqual(caught.exception.problem, check_table(ODDS, thing))
        for ask in ["even", "flip", "turn", "", None, True, 0, ["odd"], {}, ("odd",), Setting(2)]:
            with self.assertRaises(NoSuchAsk) as caught:
                check_wrong(ODDS, TABLE, ask, None)
            self.assertEqual(caught.exception.name, ask)
            self.assertRaises(NoSuchAsk, check_wrong, ODDS, TABLE, ask, recipe)
        wrong = [
            *[thing for thing in WRONG_THINGS if thing != (None,)], (), [("value", 0)], ("value", 0), (None,), ((),),
            (["value", 0],), (("value",),), (("value", 2),), (("value", -1),), (("value", True),), (("value", 0, 0),),
            (("empty", 0),), (("empty",), ("join", 0)), (("empty",), ("join", 0, 1)), (("empty",), ("join", 1, 0)),
            (("join", 0, 0),), (("empty",), ("join", 0, -1)), (("empty",), ("join", False, 0)), (("empty",), ("join", 0, 0, 0)),
            (("empty",), ("join", 0, None)), (("empty",), ("join", ("empty",), ("empty",))), (("empty",), ("deed", "flip", 1)),
            (("empty",), ("deed", "flop", 0)), (("empty",), ("deed", None, 0)), (("empty",), ("deed", ["flip"], 0)),
            (("empty",), ("deed", "flip", "0")), (("empty",), ("deed", "flip", False)), (("empty",), ("deed", "flip")),
            (("empty",), ("odd", 0)), (("Empty",),), ((Setting(2),),), (("value", 0), None),
            (("value", 0), ("value", 10 ** 99)), (("deed", "flip", 0), ("empty",)), (("empty",), ["join", 0, 0]),
            (("empty",), ("Deed", "flip", 0)), (("empty",), (None, "turn", 0)), (("empty",), ("value", "flip", 0)),
        ]
        for thing in wrong:
            with self.assertRaises(InvalidRecipe) as caught:
                check_wrong(ODDS, TABLE, "odd", thing)
            self.assertEqual(caught.exception.thing, thing)
        still = Setting(2, FLIP, {"odd": ODD})
        table = least_records(still)
        self.assertRaises(InvalidRecipe, check_wrong, still, table, "odd", (("empty",), ("deed", "turn", 0)))


WRONG_EXPRESSIONS = [
    *WRONG_THINGS, (), ("empty", 0), ("empty", ("empty",)), ["empty"], ("value",), ("value", 2), ("value", -1), ("value", True),
    ("value", "0"), ("value", 0, 0), ("value", (0,)), ("join", ("empty",)), ("join", ("empty",), ("empty",), ("empty",)),
    ("join", 0, 0), ("join", ("empty",), None), ("join", ("value", 2), ("empty",)), ("join", ["empty"], ("empty",)),
    ("deed", "flip"), ("deed", "flop", ("empty",)), ("deed", None, ("empty",)), ("deed", ["flip"], ("empty",)), (NEST,),
    ("deed", "flip", ("value", 9)), ("deed", "flip", 0), ("deed", "flip", ("empty",), 0), ("deed", ("empty",), "flip"),
    ("Join", ("empty",), ("empty",)), (None, ("empty",), ("empty",)), (Setting(2),),
    ("join", ("deed", "flip", ("x",)), ("empty",)), ("Deed", "flip", ("empty",)), (None, "turn", ("empty",)),
    ("value", "flip", ("empty",)), ("", "flip", ("empty",)),
]


class TestExpressions(unittest.TestCase):
    def test_by_hand(self):
        for expression, row, record in [
            (("empty",), (), 0),
            (("value", 1), (1,), 2),
            (("join", ("value", 0), ("value", 1)), (0, 1), 3),
            (("deed", "turn", ("join", ("value", 0), ("value", 1))), (1, 0), 3),
            (("deed", "flip", ("join", ("value", 0), ("empty",))), (1,), 2),
            (("join", ("join", ("value", 1), ("value", 0)), ("deed", "flip", ("value", 1))), (1, 0, 0), 2),
        ]:
            self.assertEqual(row_of(ODDS, expression), row)
            self.assertEqual(worked(ODDS, TABLE, expression), record)
        self.assertEqual(row_of(setting=ODDS, expression=("value", 0)), (0,))
        self.assertEqual(worked(setting=ODDS, expression=("value", 0), table=TABLE), 1)

    def test_worked_takes_the_table_as_it_is(self):
        joins = ((1, 2, 3, 0), (0, 0, 2, 1), (3, 1, 1, 2), (2, 2, 0, 3))
        table = ((3, 2), joins, {"flip": (3, 3, 1, 0), "turn": (2,) * 4}, ANSWERS)
        self.assertEqual(worked(ODDS, table, ("join", ("empty",), ("empty",))), 1)
        self.assertEqual(worked(ODDS, table, ("join", ("value", 0), ("value", 1))), 0)
        self.assertEqual(worked(ODDS, table, ("join", ("value", 1), ("value", 0))), 2)
        self.assertEqual(worked(ODDS, table, ("deed", "flip", ("deed", "turn", ("value", 1)))), 1)

    def test_random_expressions(self):
        rng = random.Random(20)
        for _ in range(200):
            setting = random_setting(rng, rng.randint(1, 3), 2)
            table = random_table(rng, setting, rng.randint(1, 9))
            expression = random_expression(rng, setting, rng.randint(1, 60))
            self.assertEqual(row_of(setting, expression), plain_row(setting, expression))
            self.assertEqual(worked(setting, table, expression), plain_record(table, expression))

    def test_deep_expressions(self):
        for many in [99, 100, 400]:
            deeds = ["flip" if k % 3 else "turn" for k in range(many)]
            expression = ("join", ("value", 0), ("value", 1))
            left, right = ("value", 1), ("value", 1)
            for k in range(many):
                expression = ("deed", deeds[k], expression)
                left, right = ("join", left, ("value", k % 2)), ("join", ("value", k % 2), right)
            row = ODDS.after(deeds, (0, 1))
            self.assertEqual(row_of(ODDS, expression), row)
            self.assertEqual(worked(ODDS, TABLE, expression), 3)
            values = tuple(k % 2 for k in range(many))
            self.assertEqual(row_of(ODDS, left), (1, *values))
            self.assertEqual(row_of(ODDS, right), (*values[::-1], 1))
            wrong = ("deed", "flip", expression[:2] + (("join", expression, ("value", 2)),))
            with self.assertRaises(InvalidExpression) as caught:
                row_of(ODDS, wrong)
            self.assertIs(caught.exception.thing, wrong)

    def test_400_parts(self):
        halves = [("value", k % 2) for k in range(200)]
        while len(halves) > 1:
            halves = [("join", *halves[k:k + 2]) if k + 1 < len(halves) else halves[k] for k in range(0, len(halves), 2)]
        expression = ("deed", "turn", halves[0])
        self.assertEqual(row_of(ODDS, expression), (1, 0) * 100)
        self.assertEqual(worked(ODDS, TABLE, expression), 0)
        # The same part may stand at several places.
        part = ("value", 1)
        for _ in range(7):
            part = ("join", part, part)
        self.assertEqual(row_of(ODDS, part), (1,) * 128)

    def test_things_that_are_no_expressions(self):
        for thing in WRONG_EXPRESSIONS:
            for expression in [thing, ("join", ("value", 0), thing), ("deed", "turn", ("join", thing, ("empty",)))]:
                with self.assertRaises(InvalidExpression) as caught:
                    row_of(ODDS, expression)
                self.assertEqual(caught.exception.thing, expression)
                with self.assertRaises(InvalidExpression) as caught:
                    worked(ODDS, TABLE, expression)
                self.assertEqual(caught.exception.thing, expression)
        self.assertRaises(InvalidExpression, row_of, Setting(2), ("deed", "turn", ("empty",)))
        self.assertRaises(InvalidExpression, row_of, Setting(1), ("value", 1))

    def test_invalid_table_is_first(self):
        for thing in [None, (ONES, JOINS, {}, ANSWERS), (ONES, (), MOVES, ANSWERS)]:
            with self.assertRaises(InvalidTable) as caught:
                worked(ODDS, thing, None)
            self.assertEqual(caught.exception.problem, check_table(ODDS, thing))
        # A wrong table is good enough.
        self.assertEqual(worked(ODDS, ((0, 0), ((0,),), {"flip": (0,), "turn": (0,)}, {"odd": (5,)}), ("value", 1)), 0)


class TestCalls(unittest.TestCase):
    def test_not_a_setting_is_first(self):
        calls = [
            lambda thing: check_table(thing, None),
            lambda thing: check_records(thing, None),
            lambda thing: check_wrong(thing, None, None, None),
            lambda thing: row_of(thing, None),
            lambda thing: worked(thing, None, None),
            lambda thing: cover(thing, None),
            lambda thing: check_table(thing, TABLE),
            lambda thing: cover(thing, TABLE),
        ]
        for thing in [thing for thing in WRONG_THINGS if not isinstance(thing, Setting)]:
            for call in calls:
                with self.assertRaises(NotASetting) as caught:
                    call(thing)
                self.assertEqual(caught.exception.thing, thing)

    def test_arguments_stay_as_they_were(self):
        moves, answers = {"turn": (0, 1, 2, 3), "flip": (0, 2, 1, 3)}, {"odd": (0, 0, 1, 1)}
        table = (ONES, JOINS, moves, answers)
        wrong = (ONES, JOINS, dict(moves), {"odd": (0, 0, 1, 0)})
        check_table(ODDS, table)
        cover(ODDS, table)
        worked(ODDS, table, ("value", 0))
        check_wrong(ODDS, wrong, "odd", (("value", 0),))
        first = check_records(ODDS, wrong)
        self.assertEqual(list(moves.items()), [("turn", (0, 1, 2, 3)), ("flip", (0, 2, 1, 3))])
        self.assertEqual((answers, wrong[2:]), ({"odd": (0, 0, 1, 1)}, (moves, {"odd": (0, 0, 1, 0)})))
        # The order of the keys means nothing.
        other = (ONES, JOINS, dict(reversed(moves.items())), {"odd": (0, 0, 1, 0)})
        self.assertEqual(check_records(Setting(2, FLIP, {"odd": ODD}, True), other), first)
        self.assertTrue(ODDS == Setting(2, FLIP, {"odd": ODD}, True))


if __name__ == "__main__":
    unittest.main()
