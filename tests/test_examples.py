"""The examples of the document, word for word."""

import unittest

from tests.examples import run_example

EXAMPLES = r'''
>>> from lazytags.machines import answer, least_machine
>>> odd = (0, ((0, 1), (1, 0)), (0, 1))
>>> [answer(odd, (1, 0, 1)), least_machine((1, ((0, 0), (2, 1), (2, 1)), (5, 7, 7)))]
[0, (0, ((0, 0),), (7,))]

>>> from lazytags.machines import machines_parted
>>> machines_parted((0, ((0, 1), (1, 0)), (0, 1)), (0, ((0, 1), (1, 1)), (0, 1)))
(1, 1)

>>> from lazytags.machines import turned
>>> turned((0, ((1, 2), (1, 1), (2, 2)), (9, 0, 1)))
(0, ((1, 2), (1, 2), (1, 2)), (9, 0, 1))

>>> from lazytags.machines import mapped
>>> mapped((0, ((0, 1), (1, 0)), (0, 1)), (1, 0))
(0, ((1, 0), (0, 1)), (0, 1))

>>> from lazytags.machines import check_machine
>>> [check_machine((0, ((0, 1), (1, 2)), (0, 1)), 2), check_machine((2, ((0, 1), (1, 0)), (0, 1)), 2)]
[('steps', 1), ('start',)]

>>> from lazytags.settings import Setting
>>> s = Setting(2, {"flip": (1, 0)}, {"odd": (0, ((0, 1), (1, 0)), (0, 1))})
>>> [s.after(["flip"], (0, 0, 1)), s.answer("odd", (0, 0, 1)), s.deeds]
[(1, 1, 0), 1, ('flip',)]

>>> from lazytags.settings import Setting
>>> Setting(2, {"flip": (1, 2)})
raises InvalidMaps(name='flip')

>>> from lazytags.records import least_records
>>> from lazytags.settings import Setting
>>> least_records(Setting(2, {"flip": (1, 0)}, {"odd": (0, ((0, 1), (1, 0)), (0, 1))}))
((1, 2), ((0, 1, 2, 3), (1, 0, 3, 2), (2, 3, 0, 1), (3, 2, 1, 0)), {'flip': (0, 2, 1, 3)}, {'odd': (0, 0, 1, 1)})

>>> from lazytags.records import least_rows, record_of
>>> from lazytags.settings import Setting
>>> s = Setting(2, {"flip": (1, 0)}, {"odd": (0, ((0, 1), (1, 0)), (0, 1))})
>>> [least_rows(s), record_of(s, (1, 1, 1, 0))]
[[(), (0,), (1,), (0, 1)], 3]

>>> from lazytags.records import same_values
>>> from lazytags.settings import Setting
>>> same_values(Setting(3, None, {"two": (0, ((0, 0, 1), (1, 1, 1)), (0, 1))}))
[[0, 1], [2]]

>>> from lazytags.settings import Setting
>>> from lazytags.tables import row_of
>>> s = Setting(2, {"flip": (1, 0)}, None, True)
>>> row_of(s, ("deed", "turn", ("join", ("deed", "flip", ("value", 0)), ("value", 0))))
(0, 1)

>>> from lazytags.settings import Setting
>>> from lazytags.tables import check_records, check_table
>>> s = Setting(1, None, {"any": (0, ((1,), (1,)), (0, 1))})
>>> right = ((1,), ((0, 1), (1, 1)), {}, {"any": (0, 1)})
>>> [check_records(s, right), check_table(s, ((1,), ((0, 1), (1, 2)), {}, {"any": (0, 1)}))]
[None, ('joins', 1)]

>>> from lazytags.settings import Setting
>>> from lazytags.tables import cover
>>> s = Setting(1, None, {"any": (0, ((1,), (1,)), (0, 1))})
>>> cover(s, ((2,), ((0, 1, 2), (1, 1, 1), (2, 0, 2)), {}, {"any": (0, 5, 1)}))
(0, None, 1)

>>> from lazytags.settings import Setting
>>> from lazytags.tables import check_wrong
>>> s = Setting(1, None, {"any": (0, ((1,), (1,)), (0, 1))})
>>> [check_wrong(s, ((0,), ((0,),), {}, {"any": (0,)}), "any", (("value", 0), ("join", 0, 0))), check_wrong(s, ((1,), ((0, 1), (1, 1)), {}, {"any": (0, 1)}), "any", (("empty",),))]
[True, False]

>>> from lazytags.partings import check_parting, in_context, parted
>>> from lazytags.settings import Setting
>>> s = Setting(2, {"flip": (1, 0)}, {"odd": (0, ((0, 1), (1, 0)), (0, 1))})
>>> [in_context(s, ("odd", (1,), ("flip",), ()), (0, 0)), check_parting(s, (), (0,), ("odd", (), ("flip",), ())), parted(s, (), (1, 1))]
[1, True, None]

>>> from lazytags.settings import Setting
>>> from lazytags.tags import tag_of, tag_words
>>> s = Setting(2, {"flip": (1, 0)}, {"odd": (0, ((0, 1), (1, 0)), (0, 1))}, True)
>>> [tag_words(s), tag_of(s, ("flip", "turn", "flip"))]
[[(), ('flip',)], 0]

>>> from lazytags.settings import Setting
>>> from lazytags.tags import least_tags
>>> s = Setting(2, {"flip": (1, 0)}, {"odd": (0, ((0, 1), (1, 0)), (0, 1))}, True)
>>> least_tags(s)
(({'flip': 1, 'turn': 0}, {'flip': 0, 'turn': 1}), ((0, 1, 2, 3), (0, 2, 1, 3)))

>>> from lazytags.settings import Setting
>>> from lazytags.tags import deeds_parted
>>> s = Setting(2, {"flip": (1, 0)}, {"odd": (0, ((0, 1), (1, 0)), (0, 1))}, True)
>>> [deeds_parted(s, ("flip",), ()), deeds_parted(s, ["turn"], [])]
[(0,), None]

>>> from lazytags.settings import Setting
>>> from lazytags.records import least_records
>>> from lazytags.tags import check_tags, cover_tags
>>> s = Setting(2, {"flip": (1, 0)}, {"odd": (0, ((0, 1), (1, 0)), (0, 1))}, True)
>>> tags = (({"flip": 1, "turn": 2}, {"flip": 2, "turn": 1}, {"flip": 1, "turn": 0}), ((0, 1, 2, 3), (0, 2, 1, 3), (0, 1, 2, 3)))
>>> [check_tags(s, least_records(s), tags), cover_tags(s, least_records(s), tags)]
[None, (0, 1, 0)]

>>> from lazytags.settings import Setting
>>> from lazytags.plans import run
>>> s = Setting(2, {"flip": (1, 0)}, {"odd": (0, ((0, 1), (1, 0)), (0, 1))}, True)
>>> run(s, (("flip", 0, 2), ("turn", 1, 3), ("flip", 0, 1)), (0, 0, 1))
(0, 1, 1)

>>> from lazytags.settings import Setting
>>> from lazytags.plans import form_of
>>> s = Setting(2, {"flip": (1, 0)}, {"odd": (0, ((0, 1), (1, 0)), (0, 1))}, True)
>>> form_of(s, (("flip", 0, 2), ("turn", 1, 3), ("flip", 0, 1)), 3)
((0, (0, 1)), (2, (0, 1)), (1, (1, 0)))

>>> from lazytags.settings import Setting
>>> from lazytags.plans import plans_parted, plans_told
>>> s = Setting(2, {"flip": (1, 0)}, {"odd": (0, ((0, 1), (1, 0)), (0, 1))}, True)
>>> one, two = [("flip", 0, 1)], [("flip", 1, 2)]
>>> [plans_parted(s, one, two, 2), plans_told(s, one, two, 2), plans_told(s, one, [], 2)]
[(0, 0), None, (0, 0)]

>>> from lazytags.settings import Setting
>>> from lazytags.plans import idle, swaps
>>> s = Setting(2, {"flip": (1, 0)}, {"odd": (0, ((0, 1), (1, 0)), (0, 1))}, True)
>>> plan = [("flip", 0, 1), ("turn", 1, 2), ("flip", 1, 2), ("turn", 0, 2)]
>>> [idle(s, plan, 2), swaps(s, plan, 2)]
[[1], [0, 1]]

>>> from lazytags.settings import Setting
>>> from lazytags.plans import plan_of, run
>>> s = Setting(2, {"flip": (1, 0)}, {"odd": (0, ((0, 1), (1, 0)), (0, 1))}, True)
>>> run(s, plan_of(s, ((1, (1, 0)), (0, (0, 1)))), (0, 1))
(0, 0)

>>> from lazytags.settings import Setting
>>> from lazytags.trees import planted, split
>>> s = Setting(2, {"flip": (1, 0)}, {"odd": (0, ((0, 1), (1, 0)), (0, 1))}, True)
>>> split(s, planted(s, (0, 0, 1)), 2)
(('join', ('value', 0), ('value', 0)), ('value', 1))

>>> from lazytags.settings import Setting
>>> from lazytags.trees import late, planted
>>> s = Setting(2, {"flip": (1, 0)}, {"odd": (0, ((0, 1), (1, 0)), (0, 1))}, True)
>>> late(s, planted(s, (0, 0, 1)), "turn", 1, 3)
('join', ('value', 0), ('deed', 'turn', ('join', ('value', 0), ('value', 1))))

>>> from lazytags.settings import Setting
>>> from lazytags.trees import late, planted
>>> s = Setting(2, {"flip": (1, 0)}, {"odd": (0, ((0, 1), (1, 0)), (0, 1))}, True)
>>> late(s, planted(s, (0, 0, 1)), "flip", 1, 2)
('join', ('join', ('value', 0), ('deed', 'flip', ('value', 0))), ('value', 1))

>>> from lazytags.settings import Setting
>>> from lazytags.trees import neat
>>> s = Setting(2, {"flip": (1, 0)}, {"odd": (0, ((0, 1), (1, 0)), (0, 1))}, True)
>>> neat(s, ("deed", "flip", ("deed", "turn", ("deed", "flip", ("value", 1)))))
('value', 1)

>>> from lazytags.settings import Setting
>>> from lazytags.trees import pieces
>>> s = Setting(2, {"flip": (1, 0)}, {"odd": (0, ((0, 1), (1, 0)), (0, 1))}, True)
>>> pieces(7, 2, 6)
[(2, 3), (3, 5), (5, 6)]

>>> from lazytags.settings import Setting
>>> from lazytags.needs import enough, enough_deeds, unfree
>>> s = Setting(2, {"flip": (1, 0)}, {"odd": (0, ((0, 1), (1, 0)), (0, 1))}, True)
>>> [enough(s), enough_deeds(s), unfree(s, "turn")]
[[('odd',)], [('flip',)], None]

>>> from lazytags.settings import Setting
>>> from lazytags.needs import enough, untold
>>> odd, even = (0, ((0, 1), (1, 0)), (0, 1)), (0, ((0, 1), (1, 0)), (1, 0))
>>> t = Setting(2, asks={"odd": odd, "even": even})
>>> [enough(t), untold(t, "odd")]
[[('even',), ('odd',)], None]

>>> from lazytags.settings import Setting
>>> from lazytags.kept import Kept
>>> s = Setting(2, {"flip": (1, 0)}, {"odd": (0, ((0, 1), (1, 0)), (0, 1))}, True)
>>> kept = Kept(s, (1, 0, 0))
>>> kept.do("flip", 1, 3)
>>> kept.put(0, (1,))
>>> [kept.row(), kept.ask("odd", 0, 4), kept.first("odd", 1, 1), kept.how_many("odd", 1), kept.how_many("odd", 0)]
[(1, 1, 1, 1), 0, 2, 6, 9]

>>> from lazytags.settings import Setting
>>> from lazytags.kept import Kept
>>> s = Setting(2, {"flip": (1, 0)}, {"odd": (0, ((0, 1), (1, 0)), (0, 1))}, True)
>>> kept = Kept(s, (1, 0, 0))
>>> kept.do("flip", 1, 3)
>>> kept.undo()
>>> [kept.cut(0, 2), kept.row(), len(kept), kept.record(0, 1)]
[(1, 0), (0,), 1, 1]

>>> from lazytags.settings import Setting
>>> from lazytags.writing import written
>>> s = Setting(2, {"flip": (1, 0)}, {"odd": (0, ((0, 1), (1, 0)), (0, 1))}, True)
>>> written(s)
'size 2\nturning\nmap flip 1 0\nask odd 0 0,1:0 1,0:1'

>>> from lazytags.settings import Setting
>>> from lazytags.writing import read, written
>>> s = Setting(2, {"flip": (1, 0)}, {"odd": (0, ((0, 1), (1, 0)), (0, 1))}, True)
>>> read(written(s)) == s
True

>>> from lazytags.settings import Setting
>>> from lazytags.writing import read
>>> read("size 2\nmap flip 1 2")
raises Unreadable(line=2)
'''


class TestExamples(unittest.TestCase):
    def test_each_example(self):
        texts = EXAMPLES.strip().split("\n\n")
        self.assertEqual(len(texts), 36)
        for text in texts:
            with self.subTest(text=text):
                given, expected = run_example(text)
                self.assertEqual(given, expected)

    def test_the_runner_sees_a_wrong_result(self):
        self.assertEqual(run_example(">>> x = 1\n>>> (x, 2)\n(1, 3)"), ("(1, 2)", "(1, 3)"))


if __name__ == "__main__":
    unittest.main()
