"""The time: each call at the limits returns within a few seconds."""

import random
import time
import unittest

from lazytags.errors import TooMany
from lazytags.kept import Kept
from lazytags.machines import answer, check_machine, least_machine, machines_parted, mapped, turned
from lazytags.needs import check_unfree, check_untold, enough, enough_deeds, unfree, untold
from lazytags.partings import check_parting, in_context, parted
from lazytags.plans import form_of, idle, plan_of, plans_parted, plans_told, run, swaps
from lazytags.records import least_records, least_rows, record_of, same_values
from lazytags.settings import Setting
from lazytags.tables import check_records, check_table, check_wrong, cover, row_of, worked
from lazytags.tags import check_tags, cover_tags, deeds_parted, least_tags, tag_of, tag_words
from lazytags.trees import late, neat, pieces, planted, split
from lazytags.writing import read, written
from tests.makers import cycle, random_machine, tailed_cycle
from tests.reckoning import blown, blown_tags, random_expression, random_plan, random_recipe, random_table
from tests.test_machines import ALSO_300, JUST_300
from tests.test_tags import FIRST_OF_FOUR, MAPS_298
from tests.test_trees import bushy, chain

SECONDS = 4
# The maps of each of these dicts come to all maps of their size.
ALL_MAPS = {
    2: {"a": (1, 0), "b": (0, 0), "c": (1, 1), "d": (0, 1)},
    3: {"a": (1, 2, 0), "b": (1, 0, 2), "c": (0, 0, 2), "d": (2, 2, 2)},
    4: {"a": (1, 2, 3, 0), "b": (1, 0, 2, 3), "c": (0, 0, 2, 3), "d": (3, 3, 3, 3)},
}


def counting(value, many, size):
    """A machine that counts one value modulo a number."""
    steps = tuple(
        tuple((state + 1) % many if other == value else state for other in range(size)) for state in range(many)
    )
    return (0, steps, tuple(range(many)))


class Timed(unittest.TestCase):
    def in_time(self, call, *arguments):
        before = time.perf_counter()
        try:
            told = call(*arguments)
        except TooMany:
            told = None
        self.assertLess(time.perf_counter() - before, SECONDS, call)
        return told


class TestTime(Timed):
    def test_machines_at_the_limits(self):
        rng = random.Random(7)
        for states, size in [(6, 4), (30, 3), (30, 2), (30, 1)]:
            for _ in range(10):
                one = random_machine(rng, states, size, 2)
                other = random_machine(rng, states, size, 2)
                self.assertIsNone(self.in_time(check_machine, one, size))
                self.in_time(answer, one, (size - 1,) * 60)
                self.in_time(least_machine, one)
                self.in_time(machines_parted, one, other)
                self.assertIsNone(self.in_time(machines_parted, one, least_machine(one)))
                self.in_time(mapped, one, tuple(rng.randrange(size) for _ in range(4)))
                self.in_time(turned, one)

    def test_machines_that_need_many_rounds(self):
        # The states are told apart one after the other only.
        for size in [1, 2, 3]:
            chain = (0, tuple((min(state + 1, 29),) * size for state in range(30)), (0,) * 29 + (1,))
            self.assertEqual(self.in_time(least_machine, chain), chain)
            self.assertEqual(self.in_time(turned, chain), chain)

    def test_returned_machines_of_300_states(self):
        one, other = turned(JUST_300), turned(ALSO_300)
        for machine in [one, other]:
            self.assertEqual(self.in_time(least_machine, machine), machine)
            self.assertIsNone(self.in_time(machines_parted, machine, machine))
            self.in_time(mapped, machine, (0, 1, 2, 0))
            self.assertTrue(len(self.in_time(turned, machine)[1]) <= 6)
        shorter = self.in_time(mapped, one, (0, 1, 2))
        self.assertIsNotNone(self.in_time(machines_parted, shorter, other))

    def test_settings_at_the_limits(self):
        rng = random.Random(8)
        for states, size in [(6, 4), (30, 3), (30, 2)]:
            for turning in [False, True]:
                asks = {name: random_machine(rng, states, size, 2) for name in "abcd"}
                setting = Setting(size, ALL_MAPS[size], asks, turning)
                for call in [least_records, least_rows, same_values]:
                    self.in_time(call, setting)
                self.in_time(record_of, setting, (0,) * 60)

    def test_many_records_and_many_maps(self):
        for turning in [False, True]:
            asks = {name: counting(value, 4, 4) for value, name in enumerate("abcd")}
            setting = Setting(4, ALL_MAPS[4], asks, turning)
            self.assertEqual(len(self.in_time(least_rows, setting)), 256)
            self.assertEqual(len(self.in_time(least_records, setting)[1]), 256)
            self.assertEqual(self.in_time(same_values, setting), [[0], [1], [2], [3]])
            asks = {name: counting(value, 6, 3) for value, name in enumerate("abc")}
            setting = Setting(3, ALL_MAPS[3], asks, turning)
            self.assertEqual(len(self.in_time(least_rows, setting)), 216)
            self.assertEqual(len(self.in_time(least_records, setting)[1]), 216)

    def test_many_records_of_one_value(self):
        asks = {"a": cycle(30), "b": cycle(20), "c": cycle(25), "d": cycle(12)}
        setting = Setting(1, {name: (0,) for name in "abcd"}, asks, True)
        self.assertEqual(len(self.in_time(least_records, setting)[1]), 300)
        self.assertEqual(self.in_time(record_of, setting, (0,) * 299), 299)


def settings_at_the_limits(rng):
    """Settings with very many records and views, with and without turn."""
    for states, size in [(6, 4), (30, 3), (30, 2), (30, 1)]:
        maps = ALL_MAPS.get(size, {name: (0,) for name in "abcd"})
        for turning in [False, True]:
            yield Setting(size, maps, {name: random_machine(rng, states, size, 2) for name in "abcd"}, turning)


def settings_with_many_records(turning):
    """Settings with 256, 216 and 300 records. The first has 256 tags."""
    yield Setting(4, ALL_MAPS[4], {name: counting(value, 4, 4) for value, name in enumerate("abcd")}, turning)
    yield Setting(3, ALL_MAPS[3], {name: counting(value, 6, 3) for value, name in enumerate("abc")}, turning)
    asks = {"a": cycle(30), "b": cycle(20), "c": cycle(25), "d": cycle(12)}
    yield Setting(1, {name: (0,) for name in "abcd"}, asks, turning)


class TestTimeOfTablesAndTags(Timed):
    def test_tables_and_partings_of_very_many_records(self):
        rng = random.Random(61)
        for setting in settings_at_the_limits(rng):
            same = ((0,) * 300,) * 300
            still = {deed: (0,) * 300 for deed in setting.deeds}
            poor = ((299,) * setting.size, same, still, {ask: (1,) * 300 for ask in setting.asks})
            for table in [random_table(rng, setting, 300), poor]:
                self.assertIsNone(self.in_time(check_table, setting, table))
                self.assertEqual(self.in_time(check_records, setting, table)[0], "wrong")
                self.in_time(check_wrong, setting, table, "a", random_recipe(rng, setting, 500))
                self.in_time(worked, setting, table, random_expression(rng, setting, 400))
            for length in [60, 300]:
                row = tuple(rng.randrange(setting.size) for _ in range(length))
                self.assertIsNone(self.in_time(parted, setting, row, row))
                self.in_time(parted, setting, row, row[:-1])
                context = ("a", row[:60], setting.deeds[:1] * 40, row[:60])
                self.in_time(in_context, setting, context, row)
                self.in_time(check_parting, setting, row, row, context)
            deeds = setting.deeds * 8
            for call in [least_tags, tag_words, lambda setting: tag_of(setting, deeds[:40])]:
                self.in_time(call, setting)
            self.in_time(deeds_parted, setting, deeds[:40], deeds[1:41])
            self.in_time(plans_told, setting, [], [], 60)

    def test_expressions_of_400_parts_and_recipes_with_many_deeds(self):
        rng = random.Random(62)
        for setting in settings_at_the_limits(rng):
            table = random_table(rng, setting, 300)
            for _ in range(5):
                expression = random_expression(rng, setting, 400)
                self.in_time(row_of, setting, expression)
                self.in_time(worked, setting, table, expression)
            # Behind many deeds, rows are read after all maps and in both ways.
            recipe = [("value", 0)]
            while len(recipe) < 499:
                recipe.append(("deed", setting.deeds[len(recipe) % len(setting.deeds)], len(recipe) - 1))
                recipe.append(("join", len(recipe) - 1, len(recipe) - 2))
            self.in_time(check_wrong, setting, table, "a", tuple(recipe))

    def test_right_tables_and_tag_tables(self):
        rng = random.Random(63)
        for turning in [False, True]:
            for setting in settings_with_many_records(turning):
                least, tags = self.in_time(least_records, setting), self.in_time(least_tags, setting)
                more = 300 - len(least[1])
                table, _ = blown(rng, least, more // 2, more - more // 2)
                self.assertEqual(len(table[1]), 300)
                self.assertIsNone(self.in_time(check_records, setting, table))
                stands = self.in_time(cover, setting, table)
                more = 300 - len(tags[0])
                large, _ = blown_tags(rng, tags, stands, more // 2, more - more // 2)
                self.assertEqual(len(large[0]), 300)
                self.assertIsNone(self.in_time(check_tags, setting, table, large))
                self.assertEqual(len(self.in_time(cover_tags, setting, table, large)), 300)
                wrong = (large[0], large[1][:-1] + ((0,) * 300,))
                self.in_time(check_tags, setting, table, wrong)
                deeds = setting.deeds * 8
                self.in_time(tag_of, setting, deeds[:40])
                self.in_time(deeds_parted, setting, deeds[:40], deeds[1:41])

    def test_many_tags_in_a_chain(self):
        # Each of 300 tags leads to the next one, so there are words of 299 deeds.
        setting = Setting(1, {"stay": (0,)}, {"a": cycle(25), "b": cycle(12)})
        table = least_records(setting)
        tags = (tuple({"stay": min(tag + 1, 299)} for tag in range(300)), (tuple(range(300)),) * 300)
        self.assertIsNone(self.in_time(check_tags, setting, table, tags))
        self.assertEqual(self.in_time(cover_tags, setting, table, tags), (0,) * 300)
        tags = (tags[0], tags[1][:299] + ((0,) * 300,))
        self.assertEqual(self.in_time(check_tags, setting, table, tags), ("wrong", ("stay",) * 299, 1))

    def test_many_tags(self):
        setting = Setting(4, MAPS_298, {"first": FIRST_OF_FOUR}, True)
        self.assertEqual(len(self.in_time(tag_words, setting)), 298)
        table, tags = least_records(setting), self.in_time(least_tags, setting)
        self.assertIsNone(self.in_time(check_tags, setting, table, tags))
        self.assertEqual(self.in_time(cover_tags, setting, table, tags), tuple(range(298)))


class TestTimeOfPlans(Timed):
    def test_plans_of_40_steps(self):
        rng = random.Random(64)
        for setting in settings_at_the_limits(rng):
            for plan in [random_plan(rng, setting.deeds, 60, 40) for _ in range(3)] + [[(setting.deeds[-1], 0, 60)] * 40]:
                self.in_time(run, setting, plan, tuple(rng.randrange(setting.size) for _ in range(60)))
                self.in_time(form_of, setting, plan, 60)
                self.in_time(plans_parted, setting, plan, random_plan(rng, setting.deeds, 60, 40), 60)
                self.in_time(plans_parted, setting, plan, [*plan], 60)
                self.in_time(idle, setting, plan, 60)
                self.in_time(swaps, setting, plan, 60)

    def test_plans_told_of_40_records(self):
        rng = random.Random(65)
        # How often there is each value, modulo 2.
        asks = {name: counting(value, 2, 4) for value, name in enumerate("abcd")}
        setting = Setting(4, ALL_MAPS[4], asks)
        self.assertEqual(len(least_rows(setting)), 16)
        pairs = [(setting, sorted(setting.maps))]
        asks = {"a": counting(1, 3, 3), "b": counting(2, 3, 3), "c": cycle(4, 3)}
        pairs.append((Setting(3, {"a": (0, 2, 1), "b": (0, 1, 1)}, asks), ["a", "b"]))
        self.assertEqual(len(least_rows(pairs[1][0])), 36)
        for setting, deeds in pairs:
            for _ in range(5):
                plan, other = random_plan(rng, deeds, 60, 40), random_plan(rng, deeds, 60, 40)
                self.in_time(plans_told, setting, plan, other, 60)
                self.assertIsNone(self.in_time(plans_told, setting, plan, list(plan), 60))
            # Many pairs of records are reached by these.
            self.in_time(plans_told, setting, [(deeds[0], 0, 60)], [(deeds[1], 0, 59)], 60)

    def test_plans_that_are_made(self):
        # Words of up to 17 deeds at each place, and turns from far.
        setting = Setting(4, {"a": (0, 0, 1, 2), "b": (1, 3, 0, 2)}, None, True)
        form = tuple((59 - place, (3, 2, 1, 1)) for place in range(60))
        plan = self.in_time(plan_of, setting, form)
        self.assertEqual(self.in_time(form_of, setting, plan, 60), form)
        self.assertEqual(self.in_time(run, setting, plan, (3,) * 60), (1,) * 60)
        self.assertIsNone(self.in_time(plans_parted, setting, plan, plan, 60))


class TestTimeOfTrees(Timed):
    def test_trees_of_400_parts_and_100_within_one_another(self):
        rng = random.Random(66)
        for setting in [*settings_at_the_limits(rng), *settings_with_many_records(True)]:
            for make in [bushy, chain]:
                tree = make(setting, rng)
                many = len(row_of(setting, tree))
                for place in range(0, many + 1, 7):
                    self.in_time(split, setting, tree, place)
                    for deed in setting.deeds:
                        self.in_time(late, setting, tree, deed, place // 2, many - place // 2)
                self.in_time(neat, setting, tree)
            for row in [(0,) * 60, (0,) * 200]:
                self.in_time(split, setting, self.in_time(planted, setting, row), 33)
                self.in_time(neat, setting, planted(setting, row))

    def test_deeds_upon_each_other(self):
        for setting in settings_with_many_records(True):
            tree = ("value", 0)
            for k in range(300):
                tree = ("deed", setting.deeds[k % len(setting.deeds)], tree)
            self.in_time(neat, setting, tree)
            self.in_time(split, setting, tree, 1)
            self.in_time(late, setting, tree, "turn", 0, 1)
        setting = Setting(4, MAPS_298, {"first": FIRST_OF_FOUR}, True)
        for make in [bushy, chain]:
            self.in_time(neat, setting, make(setting, random.Random(67)))

    def test_pieces_of_200(self):
        before = time.perf_counter()
        for start in range(201):
            for stop in range(start, 201):
                pieces(200, start, stop)
        self.assertLess(time.perf_counter() - before, 20)


class TestTimeOfNeeds(Timed):
    def test_settings_at_the_limits(self):
        rng = random.Random(68)
        # Records that are told apart only by contexts of many values.
        last = (0, tuple(((k + 1) % 30,) for k in range(30)), (0,) * 29 + (1,))
        end = (0, tuple((min(k + 1, 29),) for k in range(30)), (0,) * 29 + (1,))
        maps = {name: (0,) for name in "abcd"}
        far = Setting(1, maps, {"a": last, "b": cycle(20), "c": cycle(25), "d": cycle(12)}, True)
        self.assertEqual(len(least_rows(far)), 300)
        tailed = Setting(1, maps, {"a": tailed_cycle(1, 29), "b": end, "c": tailed_cycle(21, 9)}, True)
        self.assertEqual(len(least_rows(tailed)), 290)
        settings = [*settings_at_the_limits(rng), far, tailed]
        for setting in [*settings, *settings_with_many_records(False), *settings_with_many_records(True)]:
            self.in_time(enough, setting)
            self.in_time(enough_deeds, setting)
            rows = tuple(tuple(rng.randrange(setting.size) for _ in range(300)) for _ in range(2))
            for ask in setting.asks:
                self.in_time(untold, setting, ask)
                self.in_time(check_untold, setting, ask, rows)
            for deed in setting.deeds:
                self.in_time(unfree, setting, deed)
                self.in_time(check_unfree, setting, deed, rows)


class TestTimeOfKeptRows(Timed):
    def test_200_values_and_300_steps(self):
        rng = random.Random(69)
        for setting in [*settings_at_the_limits(rng), *settings_with_many_records(True)]:
            kept = Kept(setting, tuple(rng.randrange(setting.size) for _ in range(200)))
            before = time.perf_counter()
            for _ in range(100):
                start = rng.randrange(len(kept) + 1)
                kept.do(rng.choice(setting.deeds), start, rng.randint(start, len(kept)))
                start = rng.randrange(len(kept) + 1)
                part = kept.cut(start, min(len(kept), start + 60))
                kept.put(rng.randint(0, len(kept)), part)
                kept.ask("a", 0, len(kept))
                self.assertEqual(len(kept.copy()), 200)
            self.assertLess(time.perf_counter() - before, SECONDS)
            for wanted in [0, 1]:
                self.in_time(kept.how_many, "a", wanted)
                self.in_time(kept.first, "b", wanted, 0)
            for start in range(3):
                self.in_time(kept.record, start, 200)
            for _ in range(300):
                kept.undo()
            self.assertEqual(len(kept), 200)


class TestTimeOfWriting(Timed):
    def test_20_lines_of_300_characters(self):
        rng = random.Random(70)
        for setting in [*settings_at_the_limits(rng), *settings_with_many_records(True)]:
            text = self.in_time(written, setting)
            self.assertEqual(self.in_time(read, text), setting)
        line = "ask {} 0 " + " ".join(["11,11:10"] * 32)
        text = "\n".join(["size 2"] + [line.format(letter) for letter in "abcdefghijklmnopqrs"])
        self.assertEqual(self.in_time(written, self.in_time(read, text)), text)


if __name__ == "__main__":
    unittest.main()
