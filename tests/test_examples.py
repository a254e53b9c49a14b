"""The examples of the document, word for word."""

import unittest

from tests.examples import run_example

EXAMPLES = r'''
>>> from lazytags.machines import answer, least_machine
>>> odd = (0, ((0, 1), (1, 0)), (0, 1))
>>> [answer(odd, (1, 0, 1)), least_machine((1, ((0, 0), (2, 1), (2, 1)), (5, 7, 7)))]
[0, (0, ((0, 0),), (7,))]

>>> from lazytags.machines import machines_parted
>>> machines_parted((0, ((0, 1), (1, 0)), (0, 1)), (0, ((0, 1), (1, 1)), (0, 1)))
(1, 1)

>>> from lazytags.machines import turned
>>> turned((0, ((1, 2), (1, 1), (2, 2)), (9, 0, 1)))
(0, ((1, 2), (1, 2), (1, 2)), (9, 0, 1))

>>> from lazytags.machines import mapped
>>> mapped((0, ((0, 1), (1, 0)), (0, 1)), (1, 0))
(0, ((1, 0), (0, 1)), (0, 1))

>>> from lazytags.machines import check_machine
>>> [check_machine((0, ((0, 1), (1, 2)), (0, 1)), 2), check_machine((2, ((0, 1), (1, 0)), (0, 1)), 2)]
[('steps', 1), ('start',)]

>>> from lazytags.settings import Setting
>>> s = Setting(2, {"flip": (1, 0)}, {"odd": (0, ((0, 1), (1, 0)), (0, 1))})
>>> [s.after(["flip"], (0, 0, 1)), s.answer("odd", (0, 0, 1)), s.deeds]
[(1, 1, 0), 1, ('flip',)]

>>> from lazytags.settings import Setting
>>> Setting(2, {"flip": (1, 2)})
raises InvalidMaps(name='flip')

>>> from lazytags.records import least_records
>>> from lazytags.settings import Setting
>>> least_records(Setting(2, {"flip": (1, 0)}, {"odd": (0, ((0, 1), (1, 0)), (0, 1))}))
((1, 2), ((0, 1, 2, 3), (1, 0, 3, 2), (2, 3, 0, 1), (3, 2, 1, 0)), {'flip': (0, 2, 1, 3)}, {'odd': (0, 0, 1, 1)})

>>> from lazytags.records import least_rows, record_of
>>> from lazytags.settings import Setting
>>> s = Setting(2, {"flip": (1, 0)}, {"odd": (0, ((0, 1), (1, 0)), (0, 1))})
>>> [least_rows(s), record_of(s, (1, 1, 1, 0))]
[[(), (0,), (1,), (0, 1)], 3]

>>> from lazytags.records import same_values
>>> from lazytags.settings import Setting
>>> same_values(Setting(3, None, {"two": (0, ((0, 0, 1), (1, 1, 1)), (0, 1))}))
[[0, 1], [2]]
'''


class TestExamples(unittest.TestCase):
    def test_each_example(self):
        for text in EXAMPLES.strip().split("\n\n"):
            with self.subTest(text=text):
                given, expected = run_example(text)
                self.assertEqual(given, expected)

    def test_the_runner_sees_a_wrong_result(self):
        self.assertEqual(run_example(">>> x = 1\n>>> (x, 2)\n(1, 3)"), ("(1, 2)", "(1, 3)"))


if __name__ == "__main__":
    unittest.main()
