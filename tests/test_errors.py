"""Point [9]: refusals keep the very things, by their names."""

import unittest

from marginwords import errors

FIELDS = {
    "NoPaper": ("word", "at"),
    "NoChange": ("word",),
    "NoJoin": ("name", "word"),
    "NoName": ("name",),
    "NoBase": ("name",),
    "NoBranch": ("word",),
    "NoStrike": ("word",),
    "NoText": ("line", "word"),
    "NoRow": ("row",),
}


class Refusals(unittest.TestCase):
    def test_each_keeps_the_very_things(self):
        for title, fields in FIELDS.items():
            things = [["a", k, [None]] for k in range(len(fields))]
            refusal = getattr(errors, title)(*things)
            for field, thing in zip(fields, things):
                self.assertIs(getattr(refusal, field), thing, title)

    def test_what_is_changed_behind_it_is_changed_in_it(self):
        for title, fields in FIELDS.items():
            things = [[] for _ in fields]
            refusal = getattr(errors, title)(*things)
            for field, thing in zip(fields, things):
                thing.append(field)
                self.assertEqual(getattr(refusal, field), [field])

    def test_any_plain_things_will_do(self):
        for thing in (None, True, -1, "", "no word", (), [[], ()], 10**200):
            for title, fields in FIELDS.items():
                refusal = getattr(errors, title)(*[thing for _ in fields])
                for field in fields:
                    self.assertIs(getattr(refusal, field), thing)

    def test_just_so_many_things(self):
        for title, fields in FIELDS.items():
            for many in {0, 1, 2, 3} - {len(fields)}:
                with self.assertRaises(TypeError):
                    getattr(errors, title)(*range(many))

    def test_each_is_straight_under_the_one_base(self):
        self.assertEqual(errors.MarginError.__bases__, (ValueError,))
        for title in FIELDS:
            self.assertEqual(getattr(errors, title).__bases__, (errors.MarginError,))

    def test_each_can_be_raised_and_caught_by_its_base(self):
        for title, fields in FIELDS.items():
            with self.assertRaises(errors.MarginError) as caught:
                raise getattr(errors, title)(*fields)
            for field in fields:
                self.assertEqual(getattr(caught.exception, field), field)


if __name__ == "__main__":
    unittest.main()
